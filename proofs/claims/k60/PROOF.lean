import PyProof.Rows.All
import Wide.All
import OpenK.AllK
import Wide.FinOn
import KE.KIsAll
import KE.KTryMore
import HandS.ForMost
import HandS.ForExc
import HandS.Defaults
import HandS.ExcIs
import HandS.Lambda
import HandS.Codes
import HandS.Conv
import HandS.More
import HandS.Walk
import HandS.EndTab
import HandS.HeadWalk
import PyProof.ReprRoads
import PyProof.ListRange
import HandS.HeadHook1
import HandS.HeadHook2
import HandS.HeadHook3
import HandS.HeadHook4
import KE.KStateDown
import Lean
import HandS.IsInst
import HandS.Head0
import HandS.Head1
import HandS.Head2
import HandS.HeadEnd
import KE.GoesMore
import KE.GoesEnum
import KE.KFmtOwn
import PyProof.InstEq
import HandS.OwnEq
import HandS.Wide
import HandS.WideMore
import HandS.DictComp
import HandS.TupAny
import HandS.SortInts
import HandS.List
import HandS.Base
import HandS.Star
import HandS.RevRange
import HandS.Style
import PyProof.ReprLen
import HandS.FStr
import OpenK.KOps
import HandS.RaiseMore
import PyProof.Rows.SumAny
import HandS.ForList
import HandS.Dict
import KE.KeyNested
import HandS.Iter
import KE.KDictWalk
import PyProof.DictItems
import PyProof.DictFindH
import KE.KDictCopyH
import PyProof.SumWalkG
import HandS.Finally
import HandS.DictTup
import PyProof.DictMoreH
import KE.KDictDisplayH
import HandS.TryOnly
import HandS.Zip
import KE.KDictOf
import KE.KDictKeyed
import PySem.Challenge.RW_turncouple_k60_linkings_resolved
open PySem PySem.W PySem.Calls PyProof.Rows in
set_option Elab.async false in
set_option maxRecDepth 100000 in
set_option maxHeartbeats 0 in
theorem lookAt (h : PySem.Challenge.rw_turncouple_k60_linkings_resolved.row.wellSaid = true → PySem.Challenge.rw_turncouple_k60_linkings_resolved.row.Holds) : PySem.Challenge.rw_turncouple_k60_linkings_resolved.Holds := by
  w_on; o_law
  exact h (by assumption)
set_option Elab.async false
set_option linter.all false
set_option maxRecDepth 100000
set_option maxHeartbeats 4000000
/-! Exceptions that are caught, kept in a name and asked of later. -/
namespace TCX
open PySem PySem.Spec PyProof.Rows L2
/-! ### a clause that names five classes -/
section
open PySem.W
variable {M : Model} {K : Frag}
theorem exm_tup5 {c1 c2 c3 c4 c5 cls : Value} {tp e : Addr} {b : Bool} {h : Heap} (X : K.In h) (LT : Looks M h (typeOf (.ref e)) cls) (hp : h.get? tp = some { cls := .type "tuple", data := .seq [c1, c2, c3, c4, c5].toArray }) (hx : exmAny K cls [c1, c2, c3, c4, c5] = some b) :
    Looks M h (excMatches (.ref e) (.ref tp)) b := by
  intro A Q E s k₀ q
  obtain ⟨hh, g, d, tk, os⟩ := s
  have k : ∀ b o, h.get? b = some o → hh.get? b = some o := k₀
  have T0 : Looks M h (isInstance (.ref tp) (.type "tuple")) true := ((Looks.ld hp).andThen .now).andThen (Looks.of_pure isSubtype_tuple_tuple)
  have T1 := T0.keeps k
  have TY := LT.keeps k
  have hp' := k _ _ hp
  obtain ⟨b1, d1, x1, y1, z1⟩ := exmAny_cons hx
  obtain ⟨b2, d2, x2, y2, z2⟩ := exmAny_cons y1
  obtain ⟨b3, d3, x3, y3, z3⟩ := exmAny_cons y2
  obtain ⟨b4, d4, x4, y4, z4⟩ := exmAny_cons y3
  obtain ⟨b5, d5, x5, y5, z5⟩ := exmAny_cons y4
  have u1 := (exm_cls (M := M) X x1).1.keeps k
  have v1 := (exm_cls (M := M) X x1).2.keeps k
  have u2 := (exm_cls (M := M) X x2).1.keeps k
  have v2 := (exm_cls (M := M) X x2).2.keeps k
  have u3 := (exm_cls (M := M) X x3).1.keeps k
  have v3 := (exm_cls (M := M) X x3).2.keeps k
  have u4 := (exm_cls (M := M) X x4).1.keeps k
  have v4 := (exm_cls (M := M) X x4).2.keeps k
  have u5 := (exm_cls (M := M) X x5).1.keeps k
  have v5 := (exm_cls (M := M) X x5).2.keeps k
  have w5 : some false = some d5 := y5
  cases w5
  subst z1 z2 z3 z4 z5
  unfold excMatches
  refine wpAny_bind (T1.at ?_)
  dsimp only
  rw [if_pos rfl]
  first
    | refine wpAny_bind (wpAny_seqItems hp' rfl ?_)
    | refine wpAny_bind (wpAny_bind (wpAny_seqItems hp' rfl (wpAny_pure ?_)))
  dsimp only [Option.getD_some, Option.getD]
  cases b1 <;> cases b2 <;> cases b3 <;> cases b4 <;> cases b5 <;> ((repeat (first | simp only [List.forIn_cons, List.forIn_nil, Bool.not_true, Bool.false_eq_true, if_false, if_true] | lk)); exact q)
end
/-- the test t of a clause, asked while an exception of the class cls is handled: it says b -/
def Tst (X : Cx) (t : Expr) (cls : Value) (b : Bool) : Prop :=
  ∀ (a : Addr) (oe : Obj) (pn : List (Addr × Obj)) (σ : L2.St) (H : Hp) (s : Shared) (Q : Bool → Shared → Prop) (E : Value → Shared → Prop),
    Inv (X.suite a ((a, oe) :: pn)) [] σ H s → oe.cls = cls → (∀ h', (∀ q o, s.heap.get? q = some o → h'.get? q = some o) → Q b { s with heap := h' }) →
    wpAny (model X.prog X.w) (X.A.mark (some (.ref a))) (eval t X.env) (fun c s₁ => wpAny (model X.prog X.w) (X.A.mark (some (.ref a))) (excMatches (.ref a) c) Q E s₁) E s
section
variable {X : Cx}
theorem suite_ty {a : Addr} {oe : Obj} {pn : List (Addr × Obj)} {σ : L2.St} {H : Hp} {s : Shared} (I : Inv (X.suite a ((a, oe) :: pn)) [] σ H s) : PySem.W.Looks (model X.prog X.w) s.heap (typeOf (.ref a)) oe.cls := by
  obtain ⟨hget, _⟩ := I.pin (a, oe) (List.mem_append.mpr (.inl List.mem_cons_self))
  exact fun A Q E s k q => wpAny_typeOf_ref (k _ _ hget) q
theorem ld_names {a : Addr} {oe : Obj} {pn : List (Addr × Obj)} {σ : L2.St} {H : Hp} {s : Shared} {x : Str} {c : Value} {np : Pos} {Q : Value → Shared → Prop} {E : Value → Shared → Prop} (hc : Names X x c) (I : Inv (X.suite a ((a, oe) :: pn)) [] σ H s) (q : Q c s) :
    wpAny (model X.prog X.w) (X.A.mark (some (.ref a))) (eval (.Name x np) X.env) Q E s := by
  obtain ⟨hg, hdbg, hm | ⟨hm, hv, hnn⟩⟩ := hc
  · exact ld_glob (X := X.suite a ((a, oe) :: pn)) I hg hm q hdbg
  · exact ld_blt (X := X.suite a ((a, oe) :: pn)) I hg hm hv q hnn hdbg
theorem tst_name {x : Str} {c cls : Value} {np : Pos} {b : Bool} (hc : Names X x c) (he : PySem.W.exmOne X.K cls c = some b) : Tst X (.Name x np) cls b := by
  intro a oe pn σ H s Q E I e q
  subst e
  exact ld_names hc I ((PySem.W.exm_one I.kIn (suite_ty I) he).here (q s.heap fun _ _ z => z))
theorem tst_tup4 {x1 x2 x3 x4 : Str} {c1 c2 c3 c4 cls : Value} {p1 p2 p3 p4 tpos : Pos} {kk : Nat} {b : Bool} (n1 : Names X x1 c1) (n2 : Names X x2 c2) (n3 : Names X x3 c3) (n4 : Names X x4 c4) (he : PySem.W.exmAny X.K cls [c1, c2, c3, c4] = some b) :
    Tst X (.Tuple [.Name x1 p1, .Name x2 p2, .Name x3 p3, .Name x4 p4] kk tpos) cls b := by
  intro a oe pn σ H s Q E I e q
  subst e
  refine wpAny_Tuple ?_
  refine wpAny_items_cons (ld_names n1 I ?_)
  refine wpAny_items_cons (ld_names n2 I ?_)
  refine wpAny_items_cons (ld_names n3 I ?_)
  refine wpAny_items_cons (ld_names n4 I ?_)
  refine wpAny_items_nil ⟨by size_fits, ?_⟩
  have kp : ∀ q o, s.heap.get? q = some o → (s.heap.push { cls := .type "tuple", data := .seq [c1, c2, c3, c4].toArray }).get? q = some o := fun _ _ z => Heap.get?_push_of_some _ z
  exact (PySem.W.exm_tup4 (I.kIn.keeps kp) ((suite_ty I).keeps kp) (Heap.get?_push_size s.heap rfl) he).here (q _ kp)
theorem tst_tup5 {x1 x2 x3 x4 x5 : Str} {c1 c2 c3 c4 c5 cls : Value} {p1 p2 p3 p4 p5 tpos : Pos} {kk : Nat} {b : Bool} (n1 : Names X x1 c1) (n2 : Names X x2 c2) (n3 : Names X x3 c3) (n4 : Names X x4 c4) (n5 : Names X x5 c5) (he : PySem.W.exmAny X.K cls [c1, c2, c3, c4, c5] = some b) :
    Tst X (.Tuple [.Name x1 p1, .Name x2 p2, .Name x3 p3, .Name x4 p4, .Name x5 p5] kk tpos) cls b := by
  intro a oe pn σ H s Q E I e q
  subst e
  refine wpAny_Tuple ?_
  refine wpAny_items_cons (ld_names n1 I ?_)
  refine wpAny_items_cons (ld_names n2 I ?_)
  refine wpAny_items_cons (ld_names n3 I ?_)
  refine wpAny_items_cons (ld_names n4 I ?_)
  refine wpAny_items_cons (ld_names n5 I ?_)
  refine wpAny_items_nil ⟨by size_fits, ?_⟩
  have kp : ∀ q o, s.heap.get? q = some o → (s.heap.push { cls := .type "tuple", data := .seq [c1, c2, c3, c4, c5].toArray }).get? q = some o := fun _ _ z => Heap.get?_push_of_some _ z
  exact (exm_tup5 (I.kIn.keeps kp) ((suite_ty I).keeps kp) (Heap.get?_push_size s.heap rfl) he).here (q _ kp)
end
/-! ### a caught exception that is tracked from now on -/
/-- at a stands an exception of the class cls, its own dict d -/
def ExV (cls : Value) (d : Option Addr) (a : Addr) : HO := .ext fun h => ∃ (oe : Obj) (vs : Array Value), h.get? a = some oe ∧ Zc cls d oe ∧ oe.data = .fields vs
theorem exV_ok {P : Program} {w : World} {H : Hp} {h : Heap} {a : Addr} {cls : Value} {d : Option Addr} {oe : Obj} {vs : Array Value} (e : h.get? a = some oe) (z : Zc cls d oe) (hd : oe.data = .fields vs) : ObjOk P w H h a (ExV cls d a) :=
  ⟨⟨oe, vs, e, z, hd⟩, ⟨oe, e⟩, fun _ _ ⟨o, v, q, r⟩ k => ⟨o, v, k o q, r⟩⟩
theorem flyZ_keeps {B h h' : Heap} {l : List Env} {e : Addr} {Z : Obj → Prop} (R : HandSPX.FlyingZ B l e Z h) (k : ∀ b o, h.get? b = some o → h'.get? b = some o) : HandSPX.FlyingZ B l e Z h' := by
  obtain ⟨f1, f2, f3, oe, ws, T, oT, ts, he, hz, hd, h1, hn, hne, hT, hdT, h3⟩ := R
  exact ⟨fun b o q => k b o (f1 b o q), f2, f3.of_keeps fun b o q _ => ⟨o, k b o q, rfl⟩, oe, ws, T, oT, ts, k _ _ he, hz, hd, h1, hn, hne, k _ _ hT, hdT, h3⟩
section
variable {X : Cx} {pins : List (Addr × Obj)} {σ : L2.St} {H : Hp} {s : Shared}
theorem Inv_track {a : Addr} {cls : Value} {d : Option Addr} {oe : Obj} {vs : Array Value} (I : Inv X pins σ H s) (h0 : X.s_0.heap.get? a = none) (na : H a = none) (he : s.heap.get? a = some oe) (hz : Zc cls d oe) (hd : oe.data = .fields vs) (nL : a ≠ X.env.locals) (nP : ∀ p ∈ X.pn ++ pins, p.1 ≠ a) :
    Inv X pins σ (upd H a (ExV cls d a)) s := by
  have nS : ∀ b u, H b = some u → b ≠ a := fun b u e => ne_of_none e na
  refine ⟨I.ok, I.os, I.bare, ⟨I.base.keep, I.base.slot, fun b o e n hx => ?_, I.base.there, fun b xs e => ?_, fun b o u e => ?_, fun b ps e => ?_⟩, I.loc, I.cell, ?_, fun x c e => ?_, fun p hp => ?_, fun b u e => ?_, I.len⟩
  · rw [upd_ne (fun z => by rw [z, h0] at e; cases e)]
    exact I.base.free b o e n hx
  · have q := I.base.tups b xs e
    rw [upd_ne (nS _ _ q)]
    exact q
  · have q := I.base.frzs b o u e
    rw [upd_ne (nS _ _ q)]
    exact q
  · obtain ⟨m, q⟩ := I.base.tbls b ps e
    exact ⟨m, by rw [upd_ne (nS _ _ q)]; exact q⟩
  · rw [upd_ne (Ne.symm nL)]
    exact I.free
  · obtain ⟨v, o, ho, hdc⟩ := I.cell x c e
    rw [upd_ne (fun z => by
      rw [z, he] at ho
      cases ho
      rw [hd] at hdc
      cases hdc)]
    exact I.freeC x c e
  · obtain ⟨e, n, ne, nf, dd⟩ := I.pin p hp
    exact ⟨e, by rw [upd_ne (nP p hp)]; exact n, ne, nf, dd⟩
  · by_cases hb : b = a
    · subst hb
      rw [upd_same] at e
      cases e
      exact exV_ok he hz hd
    · rw [upd_ne hb] at e
      exact (I.hok b u e).stay (fun c v _ q => q) (fun c q => by rw [upd_ne (nS _ _ q)]; exact q) fun c xs q => by rw [upd_ne (nS _ _ q)]; exact q
theorem Inv_suite0 {a : Addr} (I : Inv X pins σ H s) : Inv (X.suite a (X.pn ++ pins)) [] σ H s :=
  ⟨I.ok.suite _ _, I.os, I.bare, I.base, I.loc, I.cell, I.free, I.freeC, fun p hp => I.pin p (by rw [List.append_nil] at hp; exact hp), I.hok, I.len⟩
theorem Inv_unsuite0 {a : Addr} {pn' : List (Addr × Obj)} (I : Inv (X.suite a (X.pn ++ pins)) pn' σ H s) (ok : X.Ok) : Inv X pins σ H s :=
  ⟨ok, I.os, I.bare, I.base, I.loc, I.cell, I.free, I.freeC, fun p hp => I.pin p (List.mem_append_left _ hp), I.hok, I.len⟩
end
/-- the ends of a suite whose name's slot i is emptied behind it -/
def endsAs (i : Nat) (D : Ends) : Ends := { nx := fun σ' H' => D.nx (σ'.set i none) H', rt := D.rt, bk := fun σ' H' => D.bk (σ'.set i none) H', ct := fun σ' H' => D.ct (σ'.set i none) H' }
/-- what the clauses wish: each has its classes, its name's slot, its suite -/
def wKeep (K : PySem.W.Frag) (D : Ends) : List (List Value × Nat × (Addr → Value → Option Addr → TS)) → WX
  | [] => fun _ _ _ _ => False
  | (cs, i, ts) :: r => fun cls d σ H => ∃ b, PySem.W.exmAny K cls cs = some b ∧ (b = true → ∀ a, H a = none → ts a cls d (endsAs i D) (σ.set i (some (.ref a))) (upd H a (ExV cls d a))) ∧ (b = false → wKeep K D r cls d σ H)
inductive HdK (X : Cx) : List ExceptHandler → List (List Value × Nat × (Addr → Value → Option Addr → TS)) → Prop
  | nil : HdK X [] []
  | cons {t : Expr} {n : Str} {i : Nat} {cs : List Value} {ts : Addr → Value → Option Addr → TS} {b₀ : Stmt} {suite : List Stmt} {pos' : Pos} {hds : List ExceptHandler} {l : List (List Value × Nat × (Addr → Value → Option Addr → TS))}
      (ht : ∀ cls b, PySem.W.exmAny X.K cls cs = some b → Tst X t cls b) (hi : X.N[i]? = some n) (hln : X.env.kindOf n = some .local)
      (hsu : ∀ (a : Addr) (cls : Value) (d : Option Addr) (pn : List (Addr × Obj)), PSs (X.suite a pn) (b₀ :: suite) (ts a cls d)) (r : HdK X hds l) :
      HdK X (.ExceptHandler (some t) (some n) (b₀ :: suite) pos' :: hds) ((cs, i, ts) :: l)
section
variable {X : Cx} {body : List Stmt} {h₀ : ExceptHandler} {hds : List ExceptHandler} {l : List (List Value × Nat × (Addr → Value → Option Addr → TS))} {pos : Pos} {tb : WX → TS}
theorem ps_try_keep (hs : X.stack = X.env :: X.outer) (hf : X.env.frame = some X.env.locals) (hex : X.ex = []) (hN : X.N.Nodup)
    (hb : ∀ (W : WX) (pn : List (Addr × Obj)) (xe : Value → Shared → Prop), Takes (X.tr pn xe) W → PassesOwn (model X.prog X.w) X.A X.env xe → PSs (X.tr pn xe) body (tb W))
    (hh : HdK X (h₀ :: hds) l) : PS X (.Try body (h₀ :: hds) [] [] pos) (fun D σ H => tb (fun cls d σ' H' => σ'.length = X.N.length → wKeep X.K D l cls d σ' H') D σ H) := by
  refine ⟨fun pins s σ H D I h => ?_⟩
  have ok := I.ok
  have hfr : X.A.frames = some (X.env :: X.outer) := by rw [ok.frames, hs]
  refine wpAny_Try_except ?_
  refine wpAny_mono ((hb (fun cls d σ' H' => σ'.length = X.N.length → wKeep X.K D l cls d σ' H') (X.pn ++ pins) (fun e s₁ => wpAny (model X.prog X.w) X.A (noteFrame e X.env) (fun _ s₂ => wpAny (model X.prog X.w) X.A (setFlight e none) (fun _ s₃ =>
    wpAny (model X.prog X.w) X.A (handleBy e X.env (h₀ :: hds)) (SP X pins D) X.xe s₃) X.xe s₂) X.xe s₁) (fun u s' xx => ?_) PassesOwn.looking).run [] s σ H D (I.toTry _) h) (fun f s1 hsp => ?_) (fun e s1 he => he)
  · obtain ⟨a, B, sI, pins', σ', H', cls, d, rfl, J', nb, up, sky, na, os, ag, w⟩ := xx
    have J : Inv X pins σ' H' sI := J'.ofTry ok
    have sky' : Sky B (X.env :: X.outer) a (Zc cls d) X.env.locals s'.heap := by rw [← hs]; exact sky
    show wpAny (model X.prog X.w) X.A (noteFrame (.ref a) X.env) _ _ _
    refine Sky.land Zc.steady hfr hf sky' fun h3 fl3 up3 => ?_
    have notFr : ∀ {h : Heap} {o : Obj} {vs : Array Value}, h.FunFrames B (X.env :: X.outer) → h.get? a = some o → o.data = .fields vs → a ∉ frs (X.env :: X.outer) := fun {h o vs} ff e dd hm => by
      obtain ⟨_, o', e', hnf⟩ := ff.mem hm
      rw [e] at e'; cases e'
      exact hnf _ dd
    have nfr : a ∉ frs (X.env :: X.outer) := by
      obtain ⟨oe3, vs3, he3, hz3, hd3⟩ := fl3.there
      exact notFr fl3.2.2.1 he3 hd3
    have nL : a ≠ X.env.locals := fun z => nfr (List.mem_filterMap.mpr ⟨X.env, List.mem_cons_self, by rw [hf, z]⟩)
    have nF : a ∉ X.fs := fun hm => by
      obtain ⟨e, he, q⟩ := List.mem_filterMap.mp hm
      exact nfr (List.mem_filterMap.mpr ⟨e, List.mem_cons_of_mem _ he, q⟩)
    have nI : sI.heap.get? a = none := by
      cases e : sI.heap.get? a with
      | none => rfl
      | some o =>
        have z := nb a o e (by rw [hs]; exact nfr)
        rw [fl3.2.1] at z
        cases z
    have n0 : X.s_0.heap.get? a = none := by
      cases e : X.s_0.heap.get? a with
      | none => rfl
      | some o =>
        obtain ⟨o', z⟩ := J.base.there a o e (by rw [hex]; exact fun z => nomatch z)
        rw [nI] at z
        cases z
    have nP : ∀ p ∈ X.pn ++ pins, p.1 ≠ a := fun p hp z => by
      obtain ⟨e, _⟩ := J.pin p hp
      rw [z, nI] at e
      cases e
    have go : ∀ {hds' : List ExceptHandler} {l' : List (List Value × Nat × (Addr → Value → Option Addr → TS))}, HdK X hds' l' → wKeep X.K D l' cls d σ' H' → ∀ h3 : Heap, HandSPX.FlyingZ B (X.env :: X.outer) a (Zc cls d) h3 → sI.heap.UpToSlots h3 →
        wpAny (model X.prog X.w) X.A (handleBy (.ref a) X.env hds') (SP X pins D) X.xe { s' with heap := h3 } := by
      intro hds' l' hk
      induction hk with
      | nil =>
        intro w
        exact w.elim
      | @cons t n i cs ts b₀ suite pos' hds2 l2 ht hi hln hsu r ih =>
        intro w h3 fl3 up3
        obtain ⟨b, hb1, hyes, hno⟩ := w
        have J3 : Inv X pins σ' H' { s' with heap := h3 } := J.landed nb fl3.1 up3 os ag
        obtain ⟨oe3, vs3, he3, hz3, hd3⟩ := fl3.there
        have S3 := J3.suite he3 hd3 na nL nF
        refine wpAny_handleBy_cons (codeAny_handlers_test (ht cls b hb1 a oe3 _ _ _ _ _ _ S3 hz3.1 fun h4 kp => ?_)) (by intro q; cases q)
        have fl4 := flyZ_keeps fl3 kp
        have up4 : sI.heap.UpToSlots h4 := up3.trans (Heap.UpToSlots.of_keeps kp)
        cases b with
        | true =>
          refine codeAny_handlers_suite_as ?_
          refine HandSPX.lands_againZ (s := { s' with heap := h4 }) fl4 fun h5 fl5 up5 => ?_
          have J5 : Inv X pins σ' H' { s' with heap := h5 } := J.landed nb fl5.1 (up4.trans up5) os ag
          obtain ⟨oe5, vs5, he5, hz5, hd5⟩ := fl5.there
          have K5 : Inv X pins σ' (upd H' a (ExV cls d a)) { s' with heap := h5 } := Inv_track J5 n0 na he5 hz5 hd5 nL nP
          have S5 : Inv (X.suite a (X.pn ++ pins)) [] σ' (upd H' a (ExV cls d a)) { s' with heap := h5 } := Inv_suite0 K5
          refine store_ok (X := X.suite a (X.pn ++ pins)) (v := .ref a) S5 hN hi (.inl hln) rfl (fun s6 S6 => ?_) (.inr hln)
          refine wpAny_mono ((hsu a cls d (X.pn ++ pins)).run [] s6 _ _ _ S6 (hyes rfl a na)) (fun f s7 hsp => ?_) (fun _ _ z => False.elim z)
          have end_ : ∀ {σ6 : L2.St} {H6 : Hp} {Q : Shared → Prop}, Inv (X.suite a (X.pn ++ pins)) [] σ6 H6 s7 → (∀ s8, Inv X pins (σ6.set i none) H6 s8 → Q s8) →
              wpAny (model X.prog X.w) X.A (do bindName X.env n .none; unbindBehindTheSuite X.env n pos') (fun _ s8 => Q s8) X.xe s7 := fun {σ6 H6 Q} S6 hq => gone_ok (Inv_unsuite0 S6 ok) hN hi hln hq
          cases f with
          | next =>
            obtain ⟨σ6, H6, S6, q6⟩ := hsp
            exact end_ S6 fun s7 J7 => ⟨_, _, J7, q6⟩
          | brk =>
            obtain ⟨σ6, H6, S6, q6⟩ := hsp
            exact end_ S6 fun s7 J7 => ⟨_, _, J7, q6⟩
          | cont =>
            obtain ⟨σ6, H6, S6, q6⟩ := hsp
            exact end_ S6 fun s7 J7 => ⟨_, _, J7, q6⟩
          | ret u =>
            obtain ⟨v6, σ6, H6, S6, r6, q6⟩ := hsp
            exact end_ S6 fun s7 J7 => ⟨_, _, _, J7, r6, q6⟩
        | false =>
          show wpAny _ X.A (handleBy (.ref a) X.env hds2) _ _ _
          exact ih (hno rfl) h4 fl4 up4
    exact go hh (w J.len) h3 fl3 (up.trans up3)
  · cases f with
    | next =>
      obtain ⟨σ', H', J', q⟩ := hsp
      exact wpAny_execs_nil ⟨σ', H', J'.ofTry ok, q⟩
    | brk =>
      obtain ⟨σ', H', J', q⟩ := hsp
      exact ⟨σ', H', J'.ofTry ok, q⟩
    | cont =>
      obtain ⟨σ', H', J', q⟩ := hsp
      exact ⟨σ', H', J'.ofTry ok, q⟩
    | ret u =>
      obtain ⟨v, σ', H', J', r, q⟩ := hsp
      exact ⟨v, σ', H', J'.ofTry ok, r, q⟩
end
/-! ### isinstance of it -/
section
variable {X : Cx}
/-- isinstance(e, c), e a kept exception of an own class without fields -/
def rIsV (K : PySem.W.Frag) : List V → Hp → VK → Prop := fun xs H Q => ∃ (a D : Addr) (c : V) (cv : Value) (b : Bool), xs = [.ref a, c] ∧ H a = some (ExV (.ref D) none a) ∧ ExcC K D ∧ (∀ u, RelV c u → u = cv) ∧ PySem.W.kitOne K (.ref D) cv = some b ∧ Q (.bl b) H
theorem inst_of {pins : List (Addr × Obj)} {σ : L2.St} {H : Hp} {s : Shared} {a D : Addr} (I : Inv X pins σ H s) (h : H a = some (ExV (.ref D) none a)) : ∃ oe, PySem.W.InstAt s.heap a oe D none := by
  obtain ⟨⟨oe, vs, hget, hz, hv⟩, _, _⟩ := I.hok a _ h
  refine ⟨oe, ?_⟩
  obtain ⟨oc, od, oda, osl⟩ := oe
  obtain ⟨h1, h2⟩ := hz
  dsimp only at h1 h2 hv
  subst h1 h2 hv
  exact ⟨hget, rfl, rfl, trivial⟩
theorem call_isV : CallR X (.builtin "isinstance") (rIsV X.K) := by
  intro pins s σ H xs us Q I r h
  obtain ⟨a, D, c, cv, b, rfl, hH, C, hcv, e, q⟩ := h
  cases r with
  | cons rx rr =>
    cases rr with
    | cons rt rr =>
      cases rr
      cases rx
      have ec := hcv _ rt
      subst ec
      obtain ⟨oe, J⟩ := inst_of I hH
      exact PySem.W.kia_one (PySem.W.handS_kitx_exc C.hg C.hk C.hs C.hd C.ha C.hn C.ht C.hm) I.kIn J e (fun z => nomatch z) fun tk => ⟨.bl b, H, I.kept (t' := tk) fun _ _ z => z, rfl, q⟩
/-- xs.count(y), flat items -/
def rCount (K : PySem.W.Frag) : V → List V → Hp → VK → Prop := fun x xs H Q => ∃ (a : Addr) (ys : List V) (y : V), x = V.ref a ∧ xs = [y] ∧ SqL K H a ys ∧ flatV y = true ∧ ys.all flatV = true ∧ Q (.int ((ys.countP fun z => eqV z y : Nat) : Int)) H
theorem count_eqU {y : V} : ∀ {xs : List V} {us : List Value}, Vals xs us → xs.all flatV = true → us.countP (eqU y) = xs.countP fun z => eqV z y
  | _, _, .nil, _ => rfl
  | x :: xs, u :: us, .cons r t, f => by
    rw [List.all_cons, Bool.and_eq_true] at f
    rw [List.countP_cons, List.countP_cons, eqU_of r f.1, count_eqU t f.2]
theorem mt_count : MtR X "list.count" (rCount X.K) := by
  intro pins s σ H x xs v us Q I rx rxs h
  obtain ⟨a, ys, y, rfl, rfl, hs, fy, fys, q⟩ := h
  cases rx
  cases rxs with
  | cons ry rt =>
    rename_i uy ut
    cases rt
    obtain ⟨its, rv, ⟨⟨cls, dd, data, sl⟩, n, ho, hc, hdn, hd⟩, hlen⟩ := I.list hs
    simp only at hc hd
    subst hc hd
    refine call_meets PySem.F.slot_list_count ⟨_, ho, rfl⟩ PySem.F.entry_list_count (PySem.F.args_list_count_2 _ _)
      (SeqAt.list_countAt a its.toArray n dd sl uy (eqU y)) ⟨ho, fun u' hu' => mem_eqAt ry fy rv fys u' (by simpa using hu'), ?_⟩
    have ec : its.toArray.toList.countP (eqU y) = ys.countP fun z => eqV z y := count_eqU rv fys
    refine ⟨.int ((ys.countP fun z => eqV z y : Nat) : Int), H, I.tok _, ⟨s.toks, ?_⟩, q⟩
    rw [ec]
end
end TCX
/-! Defs that ask repr of lists and tuples: the guards of the calls around are told. -/
namespace TCX
open PySem PySem.Spec PyProof.Rows L2
/-- FnOk where no repr is under way -/
structure FnG (P : Program) (w : World) (K : PySem.W.Frag) (mg : Str → Option Value) (base : Heap) (CX : CXT) (k : Nat) (f : Addr) (fd : FuncData) (ps : List Str) (sp : Sp) : Prop where
  glen : ∀ vs H Q E, sp vs H Q E → vs.length = ps.length
  grun : ∀ (A : Around) (outer : List Env) (s : Shared) (H : Hp) (args : Args) (us : List Value) (vs : List V) (Q : VK) (E : XK), A.guards = some [] → Room k A → Env0 P w K mg base A outer s H → BindsTo s fd args (ps.zip us) → Vals vs us → sp vs H Q E →
    codeAny (model P w) A (.call (.ref f) args) (CR CX outer P w H s Q E) s
section
variable {P : Program} {w : World} {K : PySem.W.Frag} {mg : Str → Option Value} {base : Heap} {x qual : Str} {params : Arguments} {body : List Stmt} {scope : Scope} {dvs : List V} {kws : List (Str × V)} {f : Addr} {fd : FuncData} {CX : CXT} {N ps : List Str} {k : Nat} {sp : Sp}
theorem okG (F : FunD K x qual params body scope dvs kws f fd) (S : FnScope N ps scope) (len : ∀ vs H Q E, sp vs H Q E → vs.length = ps.length)
    (hbody : ∀ (cdv : Value) (A : Around) (outer : List Env) (s : Shared) (H : Hp) (vs : List V) (Q : VK) (E : XK), A.guards = some [] → Room k (A.deeper (envOfC qual scope s.heap.objs.size f cdv)) → sp vs H Q E →
      ∃ t, PSs (cxOf CX P w K mg base N qual scope f cdv A outer s H E) body t ∧ t { nx := fun _ H' => Q .non H', rt := Q } (L2.start N vs) H) : FnG P w K mg base CX (k + 1) f fd ps sp := by
  obtain ⟨oc, od, dV, kV, doc, pm, an, cdv, ct, osl, rfl, lk, hcd, _, _⟩ := F.ex
  exact ⟨len, fun A outer s H args us vs Q E hg hr e0 hb r hsp => LamX.run_ofS lk hcd S hr e0 hb r (len _ _ _ _ hsp) fun hr' => hbody cdv A outer s H vs Q E hg hr' hsp⟩
end
section
variable {X : Cx} {CX : CXT} {k : Nat} {f : Addr} {fd : FuncData} {ps : List Str} {sp : Sp} {E : XK} {x : Str} {p pos : Pos} {e : Expr} {es : List Expr} {t : TA} {dvs : List V} {ds : List Value}
/-- f(e, ..) of such a def -/
theorem pe_callG (F : FnG X.prog X.w X.K X.mg X.base CX k f fd ps sp) (hG : X.A.guards = some []) (hr : Room k X.A) (hg : Gl X x) (hm : X.mg x = some (.ref f)) (hk : PySem.W.keepIn X.K (.ref f) = true) (hb : L2.Binds X.K fd ps ds) (hd : Vals dvs ds) (hx : Passes CX X E)
    (ha : PA X (e :: es) t) (hdb : (x == ("__debug__" : Str)) = false := by decide) (he : starEach (e :: es) X.env = (false, eval e X.env) :: starEach es X.env := by rfl) (hpl : (backTo pos (starEach es X.env)).any (·.1) = false := by rfl) :
    PE X (.Call (.Name x p) (e :: es) [] pos) (tCall sp dvs E t) := by
  refine ⟨fun pins s σ H Q I h => wpAny_Call_Name_kw (ld_glob I hg hm ?_ hdb)⟩
  refine PySem.W.callWith_K (h₀ := X.base) I.ok.mod.kin hk (thn (ha.run pos pins s σ H _ I h) fun us s1 z => ?_) he hpl
  obtain ⟨vs, H1, I1, r, q⟩ := z
  refine ⟨I1.kIn, wpAny_call (codeAny_mono (F.grun X.A X.stack s1 H1 ⟨us, []⟩ (us ++ ds) (vs ++ dvs) Q E hG hr I1.env0 (hb s1 us I1.kIn ?_) (r.append hd) q) fun y s' hq => ?_)⟩
  · rw [← (r.append hd).length]
    exact F.glen _ _ _ _ q
  · match y, hq with
    | .error u, hq => exact hx pins σ H1 s1 u s' I1 hq
    | .ok (.ret u), hq => exact I1.after hq
    | .ok .next, hq => exact False.elim hq
    | .ok .brk, hq => exact False.elim hq
    | .ok .cont, hq => exact False.elim hq
/-- repr(x) of lists and tuples of data -/
theorem call_reprD (hG : X.A.guards = some []) (hu : X.A.units + 64 < cLine) : CallR X (.builtin "repr") (fun xs H Q => ∃ (a : Addr) (d : PyData), xs = [.ref a] ∧ Dp X.K H (.ref a) d ∧ d.showable = true ∧ d.hasDict = false ∧ d.depth ≤ 60 ∧ d.shown.length ≤ sizeLine ∧ Q (.str d.shown) H) := by
  intro pins s σ H xs us Q I r h
  obtain ⟨a, d, rfl, hd, hs, hn, hdp, hz, q⟩ := h
  rw [Vals.ref1 r]
  obtain ⟨as, hr⟩ := Dp.reads I d (.ref a) (.ref a) hd rfl
  exact repr_of_reads' hr hs (fun z => by rw [hn] at z; cases z) hG (by omega) (fun _ _ z => z) (fun h' u tk hk => ⟨.str d.shown, H, I.kept (t' := tk) hk, ⟨u, rfl⟩, q⟩) hz
theorem call_reprB : CallR X (.builtin "repr") (fun xs H Q => ∃ b : Bool, xs = [.bl b] ∧ Q (.str (if b then "True" else "False")) H) := by
  intro pins s σ H xs us Q I r h
  obtain ⟨b, rfl, q⟩ := h
  obtain ⟨u, rfl, rfl⟩ := vals1 r
  exact P.repr_of_bool ⟨.str (if b then "True" else "False"), H, I.tok _, ⟨_, rfl⟩, q⟩
end
/-! ### list(range(a, b, 2)) -/
theorem size2 {a b : Int} {n : Nat} (h : a < b) (hn : (b - a - 1) / 2 + 1 = n) : Builtin.Range.rangeSize a b 2 = n := by
  unfold Builtin.Range.rangeSize
  rw [if_pos (by decide), if_pos h, hn]
theorem size2_0 {a b : Int} (h : ¬ a < b) : Builtin.Range.rangeSize a b 2 = (0 : Nat) := by
  unfold Builtin.Range.rangeSize
  rw [if_pos (by decide), if_neg h]
  rfl
theorem small2 {a b : Int} (ha : -100000 ≤ a) (ha' : a < 100000) (hb : -100000 ≤ b) (hb' : b < 100000) : Builtin.Range.small a b 2 = true := by
  unfold Builtin.Range.small
  by_cases h : a < b
  · rw [size2 (n := ((b - a - 1) / 2 + 1).toNat) h (by omega)]
    simp only [Builtin.Range.rangeFitsLong, Bool.and_eq_true, Bool.or_eq_true, decide_eq_true_eq, beq_iff_eq, show (2 : Int) > 0 by decide, if_true]
    omega
  · rw [size2_0 h]
    simp only [Builtin.Range.rangeFitsLong, Bool.and_eq_true, Bool.or_eq_true, decide_eq_true_eq, beq_iff_eq, show (2 : Int) > 0 by decide, if_true]
    omega
/-- a, a + 2, .. : n of them -/
def upV (a : Int) (n : Nat) : List V := (List.range n).map fun i => V.int (a + (i : Nat) * 2)
theorem upV_length (a : Int) (n : Nat) : (upV a n).length = n := by rw [upV, List.length_map, List.length_range]
section
variable {X : Cx} {a b : Expr} {ta : TA}
def tLst2 (ta : TA) : TE := fun σ H Q => ta σ H fun vs H1 => ∃ (i j : Int) (n : Nat), vs = [.int i, .int j, .int 2] ∧ -100000 ≤ i ∧ i < 100000 ∧ -100000 ≤ j ∧ j < 100000 ∧ Builtin.Range.rangeSize i j 2 = n ∧ ∀ q, H1 q = none → Q (.ref q) (upd H1 q (.lst (upV i n)))
theorem pe_list2 {c : Expr} {p pos p2 pos2 : Pos} (hc : X.calm = true) (hgl : Gl X "list") (hml : X.mg "list" = none) (hgr : Gl X "range") (hmr : X.mg "range" = none) (ha : PA X [a, b, c] ta)
    (hs : starEach [a, b, c] X.env = (false, eval a X.env) :: starEach [b, c] X.env := by rfl) (hpl : (backTo pos2 (starEach [b, c] X.env)).any (·.1) = false := by rfl)
    (hs2 : starEach [Expr.Call (.Name "range" p2) [a, b, c] [] pos2] X.env = (false, eval (.Call (.Name "range" p2) [a, b, c] [] pos2) X.env) :: starEach [] X.env := by rfl) :
    PE X (.Call (.Name "list" p) [.Call (.Name "range" p2) [a, b, c] [] pos2] [] pos) (tLst2 ta) := by
  refine ⟨fun pins s σ H Q I h => ?_⟩
  refine Call_ (ld_blt I hgl hml boot_list (PyProof.Rows.callWith_type1 (args_cons ?_ hs2) hs2))
  refine Call_ (ld_blt I hgr hmr boot_range (PyProof.Rows.callWith_type1 (thn (ha.run pos2 pins s σ H _ I h) fun us s1 z => ?_) hs hpl))
  obtain ⟨vs, H1, I1, r1, i, j, n, rfl, i1, i2, j1, j2, hn, q⟩ := z
  match us, r1 with
  | [_, _, _], .cons ⟨t, rfl⟩ (.cons ⟨t', rfl⟩ (.cons ⟨t'', rfl⟩ .nil)) =>
    refine call_range_3 (by decide) (args_nil ?_) (Or.inl (PyProof.noPylong_of_log2 (by decide +kernel)))
    have I2 : Inv X pins σ H1 { s1 with heap := s1.heap.push { cls := .type "range", data := .fields #[.int i t, .int j t', .int 2 t''] } } := I1.kept (t' := s1.toks) fun b u e => Heap.get?_push_of_some _ e
    have nle : n ≤ 2 ^ 24 := by
      unfold Builtin.Range.rangeSize at hn
      rw [if_pos (by decide)] at hn
      by_cases z : i < j
      · rw [if_pos z] at hn
        omega
      · rw [if_neg z] at hn
        omega
    refine call_list_range (n := n) (I2.ok.hd hc) (IsRange.new _ _ _ _ _ _ _) (small2 i1 i2 j1 j2) hn nle fun h' tk acc c' hk e' hi => ?_
    have hv : Vals (upV i n) acc.toList := by
      have e : acc.toList.length = n := by rw [Array.length_toList]; exact hi.1
      rw [upV, ← e]
      refine vals_of_get acc.toList _ fun k u hj => ?_
      obtain ⟨y, rfl⟩ := hi.2 k u (by rw [← hj, Array.getElem?_toList])
      exact ⟨y, rfl⟩
    refine ⟨.ref _, upd H1 _ (.lst (upV i n)), I2.laid hk (Nat.le_refl _) (show ObjOk X.prog X.w _ _ _ (.lst (upV i n)) from ⟨?_, acc.toList, c', hv, ?_⟩), rfl, q _ (I2.hok.fresh (Nat.le_refl _))⟩
    · rw [upV_length, sizeLine_eq]
      omega
    · rw [Array.toArray_toList]
      exact e'
end
end TCX
/-! What the head tells of the program's exception classes. -/
namespace TCX
open PySem PySem.Spec PyProof.Rows L2
/-- what isinstance asks of the class at D -/
def excB (K : PySem.W.Frag) (D : Addr) : Bool :=
  He.eqO (PySem.W.findIn K (.ref D) "__getattribute__") (some (some (.builtin "BaseException.__getattribute__"))) && (He.eqO (PySem.W.findIn K (.ref D) "__getattr__") (some none) && (decide (PySem.W.subIn K (.ref D) (.type "BaseException") = some true) &&
    (PySem.W.hasDictIn K D && (He.eqO (PySem.W.findIn K (.ref D) "__class__") (some (some (.builtin "object.__class__"))) && (He.eqO (PySem.W.specialIn K (.builtin "object.__class__") "__get__") (some (some (.builtin "getset_descriptor.__get__"))) &&
      (decide (PySem.W.takesIn K (.builtin "object.__class__") = some true) && decide (PySem.W.mroIn K D (.type "object") = some true)))))))
theorem excB_ok {K : PySem.W.Frag} {D : Addr} (h : excB K D = true) : ExcC K D := by
  obtain ⟨h1, h⟩ := He.ba h
  obtain ⟨h2, h⟩ := He.ba h
  obtain ⟨h3, h⟩ := He.ba h
  obtain ⟨h4, h⟩ := He.ba h
  obtain ⟨h5, h⟩ := He.ba h
  obtain ⟨h6, h⟩ := He.ba h
  obtain ⟨h7, h8⟩ := He.ba h
  exact ⟨He.eqO_ok h1, He.eqO_ok h2, of_decide_eq_true h3, h4, He.eqO_ok h5, He.eqO_ok h6, of_decide_eq_true h7, of_decide_eq_true h8⟩
/-- the classes in the order in which _law_word asks for them -/
def clsN : List Str := (["Empty", "NoDeed", "NoHalf", "NoLinking", "NoNet", "NoNumber", "NoOffset", "NoQuestion", "NoRow", "NoSize", "NoStanding"] : List Str) ++ (["NoTable", "NoText", "NotParted", "NoTree", "NoTriple", "NoWay", "TooWide", "ByNought", "NoName", "NoPlace", "NothingDone"] : List Str)
def words : List Str := (["empty", "deed", "half", "linking", "net", "number", "offset", "question", "row", "size", "standing"] : List Str) ++ (["table", "text", "parted", "tree", "triple", "way", "wide", "nought", "name", "place", "done"] : List Str)
/-- of the 22 classes the at-th one alone is D's -/
def Kits (K : PySem.W.Frag) (D : Addr) (at_ : Nat) : Prop := clsN.map (fun x => PySem.W.kitOne K (.ref D) (.ref (He.ga K x))) = (List.range 22).map fun i => some (i == at_)
instance {K : PySem.W.Frag} {D : Addr} {n : Nat} : Decidable (Kits K D n) := inferInstanceAs (Decidable (_ = _))
theorem Kits.at {K : PySem.W.Frag} {D : Addr} {n : Nat} (h : Kits K D n) (i : Nat) {x : Str} (hx : clsN[i]? = some x) : PySem.W.kitOne K (.ref D) (.ref (He.ga K x)) = some (i == n) := by
  have e := congrArg (fun l : List (Option Bool) => l[i]?) h
  have hi : i < 22 := by
    obtain ⟨z, _⟩ := List.getElem?_eq_some_iff.mp hx
    exact Nat.lt_of_lt_of_eq z rfl
  simp only [List.getElem?_map, hx, Option.map_some] at e
  rw [List.getElem?_range hi] at e
  exact Option.some.inj e
structure Kind (K : PySem.W.Frag) (D : Addr) (n : Nat) : Prop where
  ec : ExcC K D
  kits : Kits K D n
  te : PySem.W.kitOne K (.ref D) (.ref (He.ga K "TurnError")) = some (decide (n < 18))
  ve : PySem.W.kitOne K (.ref D) (.type "ValueError") = some (decide (n < 18))
def excAll (K : PySem.W.Frag) (x : Str) (n : Nat) : Bool := excB K (He.ga K x) && (decide (Kits K (He.ga K x) n) && (decide (PySem.W.kitOne K (.ref (He.ga K x)) (.ref (He.ga K "TurnError")) = some (decide (n < 18))) && (decide (PySem.W.kitOne K (.ref (He.ga K x)) (.type "ValueError") = some (decide (n < 18))) &&
  decide (PySem.W.exmAny K (.ref (He.ga K x)) [.ref (He.ga K "TurnError")] = some (decide (n < 18))))))
theorem excAll_ok {K : PySem.W.Frag} {x : Str} {n : Nat} (h : excAll K x n = true) : Kind K (He.ga K x) n ∧ PySem.W.exmAny K (.ref (He.ga K x)) [.ref (He.ga K "TurnError")] = some (decide (n < 18)) := by
  obtain ⟨h1, h⟩ := He.ba h
  obtain ⟨h2, h⟩ := He.ba h
  obtain ⟨h3, h⟩ := He.ba h
  obtain ⟨h4, h5⟩ := He.ba h
  exact ⟨⟨excB_ok h1, of_decide_eq_true h2, of_decide_eq_true h3, of_decide_eq_true h4⟩, of_decide_eq_true h5⟩
/-- as Kind, of all the classes -/
structure KindF (K : PySem.W.Frag) (D : Addr) (n : Nat) : Prop where
  ec : ExcC K D
  kits : Kits K D n
  te : PySem.W.kitOne K (.ref D) (.ref (He.ga K "TurnError")) = some (decide (n < 18))
  ve : PySem.W.kitOne K (.ref D) (.type "ValueError") = some (decide (n < 18))
  kz : PySem.W.kitOne K (.ref D) (.type "ZeroDivisionError") = some (n == 18)
  ky : PySem.W.kitOne K (.ref D) (.type "KeyError") = some (n == 19)
  ki : PySem.W.kitOne K (.ref D) (.type "IndexError") = some (n == 20)
  kl : PySem.W.kitOne K (.ref D) (.type "LookupError") = some (decide (19 ≤ n))
  kt : PySem.W.kitAny K (.ref D) [.type "KeyError", .type "IndexError"] = some (n == 19 || n == 20)
  x5 : PySem.W.exmAny K (.ref D) [.ref (He.ga K "TurnError"), .ref (He.ga K "ByNought"), .ref (He.ga K "NoName"), .ref (He.ga K "NoPlace"), .ref (He.ga K "NothingDone")] = some true
def excAllF (K : PySem.W.Frag) (x : Str) (n : Nat) : Bool := excB K (He.ga K x) && (decide (Kits K (He.ga K x) n) && (decide (PySem.W.kitOne K (.ref (He.ga K x)) (.ref (He.ga K "TurnError")) = some (decide (n < 18))) && (decide (PySem.W.kitOne K (.ref (He.ga K x)) (.type "ValueError") = some (decide (n < 18))) &&
  (decide (PySem.W.kitOne K (.ref (He.ga K x)) (.type "ZeroDivisionError") = some (n == 18)) && (decide (PySem.W.kitOne K (.ref (He.ga K x)) (.type "KeyError") = some (n == 19)) && (decide (PySem.W.kitOne K (.ref (He.ga K x)) (.type "IndexError") = some (n == 20)) && (decide (PySem.W.kitOne K (.ref (He.ga K x)) (.type "LookupError") = some (decide (19 ≤ n))) &&
  (decide (PySem.W.kitAny K (.ref (He.ga K x)) [.type "KeyError", .type "IndexError"] = some (n == 19 || n == 20)) && decide (PySem.W.exmAny K (.ref (He.ga K x)) [.ref (He.ga K "TurnError"), .ref (He.ga K "ByNought"), .ref (He.ga K "NoName"), .ref (He.ga K "NoPlace"), .ref (He.ga K "NothingDone")] = some true)))))))))
theorem excAllF_ok {K : PySem.W.Frag} {x : Str} {n : Nat} (h : excAllF K x n = true) : KindF K (He.ga K x) n := by
  obtain ⟨h1, h⟩ := He.ba h
  obtain ⟨h2, h⟩ := He.ba h
  obtain ⟨h3, h⟩ := He.ba h
  obtain ⟨h4, h⟩ := He.ba h
  obtain ⟨h5, h⟩ := He.ba h
  obtain ⟨h6, h⟩ := He.ba h
  obtain ⟨h7, h⟩ := He.ba h
  obtain ⟨h8, h⟩ := He.ba h
  obtain ⟨h9, ha⟩ := He.ba h
  exact ⟨excB_ok h1, of_decide_eq_true h2, of_decide_eq_true h3, of_decide_eq_true h4, of_decide_eq_true h5, of_decide_eq_true h6, of_decide_eq_true h7, of_decide_eq_true h8, of_decide_eq_true h9, of_decide_eq_true ha⟩
/-- an own class over ZeroDivisionError -/
def zBase : List Value := [.type "ZeroDivisionError", .type "ArithmeticError", .type "Exception", .type "BaseException", .type "object"]
def excZ (K : PySem.W.Frag) (x : Str) : Bool := PySem.W.excIn K (He.ga K x) zBase "ZeroDivisionError.__new__" && (PySem.W.keepIn K (.ref (He.ga K x)) && (decide (PySem.W.subIn K (.ref (He.ga K x)) (.type "BaseException") = some true) && decide (PySem.W.typeIn K (.ref (He.ga K x)) = some (.type "type"))))
theorem excZ_ok {K : PySem.W.Frag} {x : Str} (h : excZ K x = true) : PySem.W.excIn K (He.ga K x) zBase "ZeroDivisionError.__new__" = true ∧ PySem.W.keepIn K (.ref (He.ga K x)) = true ∧ PySem.W.subIn K (.ref (He.ga K x)) (.type "BaseException") = some true ∧ PySem.W.typeIn K (.ref (He.ga K x)) = some (.type "type") := by
  obtain ⟨h1, h⟩ := He.ba h
  obtain ⟨h2, h⟩ := He.ba h
  obtain ⟨h3, h4⟩ := He.ba h
  exact ⟨h1, h2, of_decide_eq_true h3, of_decide_eq_true h4⟩
end TCX
namespace TC
open PySem PySem.Spec PyProof.Rows L2
/-! the text by places -/
def top (i : Nat) : Stmt := PySem.Challenge.pw_turncouple_k60_linkings_resolved.main.body.getD i (.Pass ⟨0, 0, 0, 0⟩)
abbrev sWhole : Stmt := top 10
abbrev sShared : Stmt := top 11
abbrev sLowest : Stmt := top 12
abbrev sSumLow : Stmt := top 13
abbrev sSquares : Stmt := top 14
abbrev sOdd : Stmt := top 16
abbrev sFacts : Stmt := top 17
abbrev sPrimesF : Stmt := top 18
abbrev sPlus : Stmt := top 23
abbrev sTimes : Stmt := top 24
abbrev sRootF : Stmt := top 25
abbrev sNeed : Stmt := top 26
abbrev sMerged : Stmt := top 27
abbrev sOneBottom : Stmt := top 28
abbrev sLowered : Stmt := top 29
abbrev sProducts : Stmt := top 30
abbrev sOffsets : Stmt := top 35
abbrev sSizesOf : Stmt := top 36
abbrev sIsSize : Stmt := top 37
abbrev sIsOffset : Stmt := top 38
abbrev sNeedSizes : Stmt := top 39
abbrev sCanJoin : Stmt := top 40
abbrev sJoinedN : Stmt := top 41
abbrev sTerms : Stmt := top 42
abbrev sResolved : Stmt := top 45
abbrev sRankOf : Stmt := top 46
abbrev sNeedLinked : Stmt := top 47
abbrev sNeedLinking : Stmt := top 48
abbrev sPlacesOf : Stmt := top 49
abbrev sTensorIn : Stmt := top 50
abbrev sPen : Stmt := top 52
abbrev sDraw : Stmt := top 53
abbrev sLow : Stmt := top 54
abbrev sCleared : Stmt := top 55
abbrev sSum : Stmt := top 56
abbrev sBy : Stmt := top 57
abbrev sCommon : Stmt := top 58
abbrev sProduct : Stmt := top 59
abbrev sParts : Stmt := top 60
abbrev sRooted : Stmt := top 61
abbrev sFactorial : Stmt := top 62
abbrev sTwo : Stmt := top 63
abbrev sLinkingL : Stmt := top 64
abbrev sOneTensorL : Stmt := top 65
abbrev sDueL : Stmt := top 66
abbrev sLaw : Stmt := top 67
abbrev sExact : Stmt := top 22
abbrev sInit : Stmt := inClass (top 21) 0
abbrev sEq : Stmt := inClass (top 21) 1
abbrev sStr : Stmt := inClass (top 21) 2
abbrev sRepr : Stmt := inClass (top 21) 3
abbrev FnP (K : PySem.W.Frag) (x : Str) (st : Stmt) (f : Addr) (fd : FuncData) : Prop := FunD K x x (defArgs st) (defBody st) (defScope st) [] [] f fd
/-- the primes below 1000 -/
def primes : List Int := [2, 3, 5, 7, 11, 13, 17, 19, 23, 29, 31, 37, 41, 43, 47, 53, 59, 61, 67, 71, 73, 79, 83, 89, 97, 101, 103, 107, 109, 113, 127, 131, 137, 139, 149, 151, 157, 163, 167, 173, 179, 181, 191, 193, 197, 199, 211, 223, 227, 229, 233, 239, 241, 251, 257, 263, 269, 271, 277, 281, 283, 293, 307, 311, 313, 317, 331, 337, 347, 349, 353, 359, 367, 373, 379, 383, 389, 397, 401, 409, 419, 421, 431, 433, 439, 443, 449, 457, 461, 463, 467, 479, 487, 491, 499, 503, 509, 521, 523, 541, 547, 557, 563, 569, 571, 577, 587, 593, 599, 601, 607, 613, 617, 619, 631, 641, 643, 647, 653, 659, 661, 673, 677, 683, 691, 701, 709, 719, 727, 733, 739, 743, 751, 757, 761, 769, 773, 787, 797, 809, 811, 821, 823, 827, 829, 839, 853, 857, 859, 863, 877, 881, 883, 887, 907, 911, 919, 929, 937, 941, 947, 953, 967, 971, 977, 983, 991, 997]
/-! the head: facts by names -/
def dd (x : Str) (st : Stmt) : He.DefD := ⟨(x, none), x, x, defArgs st, defBody st, defScope st, [], []⟩
def dm (m q : Str) (st : Stmt) : He.DefD := ⟨("Exact", some m), m, q, defArgs st, defBody st, defScope st, [], []⟩
def dExact : He.DefD := ⟨("exact", none), "exact", "exact", defArgs sExact, defBody sExact, defScope sExact, [], [("bottom", .int 1), ("root", .int 1)]⟩
def fn : List He.DefD := ([dm "__init__" "Exact.__init__" sInit, dm "__eq__" "Exact.__eq__" sEq, dExact, dd "is_whole" sWhole, dd "shared" sShared, dd "in_lowest" sLowest, dd "sum_in_lowest" sSumLow, dd "squares_out" sSquares, dd "is_odd" sOdd, dd "factorials" sFacts, dd "primes_of_factorials" sPrimesF, dd "plus" sPlus, dd "times" sTimes, dd "root_of_factorials" sRootF, dd "need_exact" sNeed, dd "merged" sMerged] : List He.DefD) ++ ([dd "on_one_bottom" sOneBottom, dd "lowered" sLowered, dd "products" sProducts, dd "offsets" sOffsets, dd "sizes_of" sSizesOf, dd "is_size" sIsSize, dd "is_offset" sIsOffset, dd "need_sizes" sNeedSizes, dd "can_join" sCanJoin, dd "joined_number" sJoinedN, dd "terms_of_joined" sTerms, dd "resolved" sResolved, dd "rank_of" sRankOf, dd "need_linked_sizes" sNeedLinked, dd "need_linking" sNeedLinking, dd "places_of" sPlacesOf] : List He.DefD) ++ ([dd "tensor_in" sTensorIn, dd "_law_pen" sPen, dd "_law_draw" sDraw, dd "_law_low" sLow, dd "_law_cleared" sCleared, dd "_law_sum" sSum, dd "_law_by" sBy, dd "_law_common" sCommon, dd "_law_product" sProduct, dd "_law_parts" sParts, dd "_law_rooted" sRooted, dd "_law_factorial" sFactorial, dd "_law_two" sTwo, dd "_law_linking" sLinkingL, dd "_law_one_tensor" sOneTensorL, dd "_law_due" sDueL] : List He.DefD) ++ ([dd "law" sLaw] : List He.DefD)
def fa : List He.Fa := ([.glo "Exact", .glo "exact", .glo "PRIMES", .int "HIGHEST_ROOT" 1000000, .int "HIGHEST_SIZE" 40, .int "HIGHEST_OF_LINKING" 8, .cls "Exact", .noat "Exact" "parts", .mkr "Exact", .meth "Exact" "__eq__", .glo "is_whole", .glo "shared", .glo "in_lowest", .glo "sum_in_lowest", .glo "squares_out", .glo "is_odd"] : List He.Fa) ++ ([.glo "factorials", .glo "primes_of_factorials", .glo "plus", .glo "times", .glo "root_of_factorials", .glo "need_exact", .glo "merged", .glo "on_one_bottom", .glo "lowered", .glo "products", .glo "offsets", .glo "sizes_of", .glo "is_size", .glo "is_offset", .glo "need_sizes", .glo "can_join"] : List He.Fa) ++ ([.glo "joined_number", .glo "terms_of_joined", .glo "resolved", .glo "rank_of", .glo "need_linked_sizes", .glo "need_linking", .glo "places_of", .glo "tensor_in", .glo "_law_pen", .glo "_law_draw", .glo "_law_low", .glo "_law_cleared", .glo "_law_sum", .glo "_law_by", .glo "_law_common", .glo "_law_product"] : List He.Fa) ++ ([.glo "_law_parts", .glo "_law_rooted", .glo "_law_factorial", .glo "_law_two", .glo "_law_linking", .glo "_law_one_tensor", .glo "_law_due", .glo "law", .glo "TurnError", .glo "NoNumber", .glo "NoSize", .glo "NoLinking", .glo "ByNought", .exc "NoNumber", .exc "NoSize", .free "isinstance"] : List He.Fa) ++ ([.free "int", .free "bool", .free "abs", .free "sorted", .free "list", .free "tuple", .free "len", .free "range", .free "reversed", .free "dict", .free "max", .free "min", .free "sum", .free "divmod", .free "enumerate", .free "set"] : List He.Fa) ++ ([.free "str"] : List He.Fa)
def others : List String := ["int", "NoneType", "str", "tuple", "list", "bool", "dict"]
/-- more facts: the tuple of primes, what == and isinstance ask of Exact -/
def exN (K : PySem.W.Frag) : Bool :=
  He.tupB K "PRIMES" (primes.map He.Dv.int) &&
  (He.eqO (PySem.W.findIn K (.ref (He.ga K "Exact")) "__ne__") (some (some (.builtin "object.__ne__"))) &&
  (He.eqO (PySem.W.findIn K (.ref (He.ga K "Exact")) "__class__") (some (some (.builtin "object.__class__"))) &&
  (He.eqO (PySem.W.specialIn K (.builtin "object.__class__") "__get__") (some (some (.builtin "getset_descriptor.__get__"))) &&
  (decide (PySem.W.takesIn K (.builtin "object.__class__") = some true) &&
  (decide (PySem.W.mroIn K (He.ga K "Exact") (.type "object") = some true) &&
  (others.all fun t => decide (PySem.W.subIn K (.type t) (.ref (He.ga K "Exact")) = some false) && decide (PySem.W.kitOne K (.type t) (.ref (He.ga K "Exact")) = some false)))))))
def exB (K : PySem.W.Frag) : Bool := exN K && TCX.excZ K "ByNought"
def tf : List He.Defn := []
def hk : PySem.W.Hook := He.hookX 5 fa fn [] tf exB
abbrev R : PySem.W.OpenRow := PySem.W.OpenLaw.row PySem.Challenge.rw_turncouple_k60_linkings_resolved
def ob (s : PySem.W.SharedT) : He.AlX := He.obsX 5 fa fn [] tf exB (HandSHeadRun.getT s)
theorem ob_eq (s : PySem.W.SharedT) : ob s = hk.obs s.abs := He.obsX_eq (s := s.abs) (HandSHeadRun.getT_eq s)
def loose : List PySem.Str := (["TurnError", "NoNumber", "NoSize", "NoLinking", "ByNought", "PRIMES", "BLOCK_FIGURES", "BLOCK", "is_whole", "shared", "in_lowest", "sum_in_lowest", "squares_out", "figures", "is_odd", "factorials"] : List PySem.Str) ++ (["primes_of_factorials", "HIGHEST_ROOT", "Exact", "exact", "plus", "times", "root_of_factorials", "need_exact", "merged", "on_one_bottom", "lowered", "products", "text_of", "text_of_part", "HIGHEST_SIZE", "offsets"] : List PySem.Str) ++ (["sizes_of", "is_size", "is_offset", "need_sizes", "can_join", "joined_number", "terms_of_joined", "HIGHEST_OF_LINKING", "resolved", "rank_of", "need_linked_sizes", "need_linking", "places_of", "tensor_in", "_law_pen", "_law_draw"] : List PySem.Str) ++ (["_law_low", "_law_cleared", "_law_sum", "_law_by", "_law_common", "_law_product", "_law_parts", "_law_rooted", "_law_factorial", "_law_two", "_law_linking", "_law_one_tensor", "_law_due"] : List PySem.Str)
end TC
namespace TC
open PySem PySem.Spec PyProof.Rows L2
theorem run (w : World) : HandSHeadRun.RunEq R (PySem.W.view R.prog [67]) hk ob 30000 loose w := by
  intro os
  kernel_rfl
end TC
/-! Rules of my own: == and != by an own __eq__ with either answer, str of an instance, enumerate of a tuple. -/
namespace TCA
open PySem PySem.Spec PyProof.Rows L2
/-! ### enumerate(tuple) -/
theorem meets_enum1 {v : Value} {o : Obj} {H : Heap → Prop} (B : Begins v o H) :
    Meets (Builtin.«enumerate.__new__» ⟨[.type "enumerate", v], []⟩) (fun _ R s => H s.heap ∧
      R (.ok (.ret (.ref (s.heap.push o).objs.size))) { s with heap := (s.heap.push o).push { cls := .type "enumerate", data := .fields #[.none, .bool false, .ref s.heap.objs.size, rawInt 0, .none, .none] } }) :=
  .of_wp fun prog w A R s h => by
    obtain ⟨hp, g, d, tk, os⟩ := s; obtain ⟨h1, h⟩ := h
    have hsub := sub_enumerate
    have q1 : ∀ {A' : Around} {E : Value → Shared → Prop} {Q : Value → Shared → Prop}, Q (.ref hp.objs.size) ⟨hp.push o, g, d, tk, os⟩ → wpAny (model prog w) A' (pyIter v) Q E ⟨hp, g, d, tk, os⟩ :=
      fun q => B.iter prog w _ _ ⟨hp, g, d, tk, os⟩ _ h1 q
    wp_walk using q1
    refine wpAny_stack_any fun st => wpAny_pure ?_
    split
    · rename_i c _ _ _ _ _
      cases (c == Value.type "enumerate")
      · wp_walk using q1
        exact ⟨_, rfl, h⟩
      · wp_walk using q1
        exact ⟨_, rfl, h⟩
    · wp_walk using q1
      exact ⟨_, rfl, h⟩
theorem enum_begins1 {prog : Program} {w : World} {A : Around} {E : Value → Shared → Prop} {s : Shared} {v : Value} {o : Obj} {H : Heap → Prop} {Q : Value → Shared → Prop} (B : Begins v o H) (h1 : H s.heap)
    (h : ∀ h', IsEnum h' (s.heap.objs.size + 1) s.heap.objs.size 0 .none → h'.get? s.heap.objs.size = some o → h'.objs.size = s.heap.objs.size + 2 →
      (∀ b o, s.heap.get? b = some o → h'.get? b = some o) → Q (.ref (s.heap.objs.size + 1)) { s with heap := h' }) :
    wpAny (model prog w) A (call (.type "enumerate") [v]) Q E s := by
  refine callType_new F.called_enumerate (by decide) (F.typeCall_enumerate_1 _) (F.newCall_enumerate_1 _) (fun obj => F.args_object_init_2 obj _) F.entry_enumerate_new
    (meets_enum1 B) ⟨h1, ?_⟩
  have hz : (s.heap.push o).objs.size = s.heap.objs.size + 1 := Heap.size_push ..
  show _ ∧ _
  rw [hz]
  have he : IsEnum ((s.heap.push o).push { cls := .type "enumerate", data := .fields #[.none, .bool false, .ref s.heap.objs.size, rawInt 0, .none, .none] }) (s.heap.objs.size + 1) s.heap.objs.size 0 .none := by
    have := Heap.get?_push_size (s.heap.push o) (o := { cls := .type "enumerate", data := .fields #[.none, .bool false, .ref s.heap.objs.size, rawInt 0, .none, .none] }) rfl
    rw [hz] at this; exact this
  refine ⟨⟨_, he, rfl⟩, h _ he (Heap.get?_push_of_some _ (Heap.get?_push_size _ B.free)) (by rw [Heap.size_push, hz]) fun b o x => Heap.get?_push_of_some _ (Heap.get?_push_of_some _ x)⟩
/-- the tuple at a of xs, each item in a new pair -/
def Iet (K : PySem.W.Frag) (a : Addr) (xs : List V) : It :=
  ⟨fun i H => i < xs.length ∧ SqT K H a xs, fun i H v H' => ∃ T x, v = .ref T ∧ H T = none ∧ H' = upd H T (.tup [.int (i : Nat), x]) ∧ xs[i]? = some x, fun i H => xs.length ≤ i ∧ SqT K H a xs⟩
theorem turn_enumT {P : Program} {w : World} {K : PySem.W.Frag} {elts : List Expr} {kk : Nat} {tpos : Pos} (a e it : Addr) (xs : List V) :
    Turn P w K (.Tuple elts kk tpos) (Iet K a xs) [e, it] e (fun i h => (∃ old, IsEnum h e it ((i : Nat) : Int) old) ∧ h.IsTupleIter it a i ∧ e ≠ it ∧ a ≠ it ∧ e ≠ a ∧ i ≤ xs.length) where
  mem := by simp
  obj := fun i h st b hb => by
    obtain ⟨⟨old, he⟩, ⟨o, ho, hc, hd⟩, _⟩ := st
    have e' : b = e ∨ b = it := by simpa using hb
    rcases e' with z | z
    · rw [z]; exact ⟨_, he, fun v q => nomatch q⟩
    · rw [z]; exact ⟨o, ho, fun v q => by rw [hd] at q; cases q⟩
  keep := fun i h h' st k => let ⟨⟨old, he⟩, hi, hne⟩ := st; ⟨⟨old, k e (by simp) _ he⟩, hi.at fun o q => k it (by simp) o q, hne⟩
  item := by
    intro X hP hw hK hc i pins s σ H E I hf st hg
    subst hP hw hK
    obtain ⟨⟨old, he⟩, hit, hne, hai, hea, hle⟩ := st
    obtain ⟨hlt, hq⟩ := hg
    obtain ⟨its, rv, p, hz⟩ := I.tuple hq
    have hl := rv.length
    have hel : e < s.heap.objs.size := Heap.lt_size he
    have hil : it < s.heap.objs.size := by obtain ⟨_, q, _⟩ := hit; exact Heap.lt_size q
    have hh : X.A.in1.handled = none := I.ok.hd hc
    have D := Draws.tuple (prog := X.prog) (w := X.w) hh it a hai its.toArray
    refine wpAny_pyNext_enum_itemD D he ⟨hit, p⟩ (by simp; omega) hne (by simp; exact ⟨hne, hea⟩) fun u h' tk hu ho hst hT hsz hk => ?_
    obtain ⟨hit', _⟩ := hst
    have hu2 : its[i]? = some u := by simpa using hu
    have hx : xs[i]? = some xs[i] := List.getElem?_eq_getElem hlt
    obtain ⟨u2, hu3, ru⟩ := rv.get hx
    have eu : u2 = u := Option.some.inj (hu3.symm.trans hu2)
    subst eu
    refine ⟨_, rfl, wpAny_letOwnedTupleGo_enum (s := { s with heap := h', toks := tk + 1 }) ho fun h'' he' sb => ?_⟩
    have hT2 : h''.get? s.heap.objs.size = some { cls := .type "tuple", data := .seq #[.int i tk, u2] } := (sb.2 _ (Nat.ne_of_gt hel)).trans hT
    have new : ObjOk X.prog X.w (upd H s.heap.objs.size (.tup [.int (i : Nat), xs[i]])) h'' s.heap.objs.size (.tup [.int (i : Nat), xs[i]]) :=
      ⟨by show 2 ≤ sizeLine; decide, [.int i tk, u2], .cons ⟨_, rfl⟩ (.cons ru .nil), ⟨_, hT2, rfl, _, rfl⟩⟩
    have I1 : Inv X pins σ (upd H s.heap.objs.size (.tup [.int (i : Nat), xs[i]])) { s with heap := h'', toks := tk + 1 } :=
      I.turnedNew (ch := [e, it]) (fun b ob hb q => (sb.2 b (fun z => hb (by simp [z]))).trans (hk b ob (fun z => hb (by simp [z])) (fun z => hb (by simp [z])) q)) hf (Nat.le_refl _) new
    refine ⟨.ref s.heap.objs.size, _, I1, rfl, ⟨_, xs[i], rfl, I.hok.fresh (Nat.le_refl _), rfl, hx⟩, ⟨⟨u2, ?_⟩, hit'.at fun o q => (sb.2 it (Ne.symm hne)).trans q, hne, hai, hea, hlt⟩, fun b hb => ?_⟩
    · have e1 : ((i + 1 : Nat) : Int) = (i : Int) + 1 := by omega
      rw [e1]; exact he'
    · have hb' : b < s.heap.objs.size := by
        have e' : b = e ∨ b = it := by simpa using hb
        rcases e' with z | z
        · rw [z]; exact hel
        · rw [z]; exact hil
      rw [upd_ne (Nat.ne_of_lt hb')]
      exact (hf b hb).1
  done := by
    intro X hP hw hK hc i pins s σ H E I hf st hg
    subst hP hw hK
    obtain ⟨⟨old, he⟩, hit, hne, hai, hea, hle⟩ := st
    obtain ⟨hge, hq⟩ := hg
    obtain ⟨its, rv, p, hz⟩ := I.tuple hq
    obtain ⟨f0, f1, f2, f3, f4, f5⟩ := hf it (by simp)
    have hl := rv.length
    have hh : X.A.in1.handled = none := I.ok.hd hc
    have D := Draws.tuple (prog := X.prog) (w := X.w) hh it a hai its.toArray
    have ei : i = its.toArray.size := by simp; omega
    subst ei
    exact wpAny_pyNext_enum_endD D he ⟨hit, p⟩ fun h' eb => ⟨rfl, I.turned (t' := s.toks) (fun b o hb q => eb b o hb q) f0 f1 f3 f4 f5⟩
  self := fun A i s Q E st h => let ⟨⟨_, he⟩, _⟩ := st; wpAny_pyIter_enum he h
def iEnumT (K : PySem.W.Frag) (ta : TA) : TI := fun σ H R => ta σ H fun vs H1 => ∃ a xs, vs = [.ref a] ∧ SqT K H1 a xs ∧ R (Iet K a xs) H1
theorem pi_enumT {X : Cx} {e : Expr} {ta : TA} {p pos tpos : Pos} {elts : List Expr} {kk : Nat} (hg : Gl X "enumerate") (hm : X.mg "enumerate" = none) (ha : PA X [e] ta) (hs : starEach [e] X.env = [(false, eval e X.env)] := by rfl) :
    PI X (.Tuple elts kk tpos) (.Call (.Name "enumerate" p) [e] [] pos) (iEnumT X.K ta) := by
  refine ⟨fun pins s σ H R I h => ?_⟩
  refine Call_ (ld_blt I hg hm boot_enumerate (PyProof.Rows.callWith_type1 (thn (ha.run pos pins s σ H _ I h) fun us s1 ⟨vs, H1, I1, r1, q1⟩ => ?_) hs rfl))
  obtain ⟨a, xs, ex, hq, q⟩ := q1
  subst ex
  cases r1 with
  | cons r rr =>
    cases rr
    cases r
    obtain ⟨its, rv, p', hz⟩ := I1.tuple hq
    have hal : a < s1.heap.objs.size := by obtain ⟨o, h1, _⟩ := p'; exact Heap.lt_size h1
    refine enum_begins1 (begins_tuple a its.toArray) p' fun h' he hit hsz hk => wpAny_pyIter_enum he ?_
    have I2 : Inv X pins σ H1 { s1 with heap := h' } := I1.kept (t' := s1.toks) hk
    refine ⟨s1.heap.objs.size + 1, [s1.heap.objs.size + 1, s1.heap.objs.size], _, _, H1, rfl, I2, turn_enumT a (s1.heap.objs.size + 1) s1.heap.objs.size xs, ⟨⟨.none, he⟩, ⟨_, hit, rfl, rfl⟩, Nat.succ_ne_self _, Nat.ne_of_lt hal, Nat.ne_of_gt (Nat.lt_succ_of_lt hal), Nat.zero_le _⟩, fun b hb => ?_, q⟩
    have e' : b = s1.heap.objs.size + 1 ∨ b = s1.heap.objs.size := by simpa using hb
    have hle : s1.heap.objs.size ≤ b := by
      rcases e' with z | z
      · rw [z]; exact Nat.le_add_right _ _
      · rw [z]; exact Nat.le_refl _
    exact I1.fpOk hle (I1.hok.fresh hle)
/-! ### == and != by an own __eq__ -/
section
variable {X : Cx} {CX : CXT} {n : Nat} {C f : Addr} {fd : FuncData} {ps : List Str} {sp : Sp} {E : XK}
/-- the own method runs somewhere below -/
theorem run_sub {A : Around} {pins : List (Addr × Obj)} {σ : L2.St} {H : Hp} {s : Shared} {Q : VK} {us : List Value} {vs : List V} (F : FnOk X.prog X.w X.K X.mg X.base CX n f fd ps sp) (hb : Binds X.K fd ps []) (hx : Passes CX X E)
    (sb : Sub X n A) (I : Inv X pins σ H s) (r : Vals vs us) (h : sp vs H Q E) : wpAny (model X.prog X.w) A (call (.ref f) us) (EP X pins σ Q) X.xe s := by
  have e0 : Env0 X.prog X.w X.K X.mg X.base A X.stack s H := by
    have e := I.env0
    exact ⟨by rw [sb.fr]; exact e.frames, e.mod, e.bs, e.bsz, e.funs, e.frf, e.hok, e.bare⟩
  have hl : us.length = ps.length := by rw [← r.length]; exact F.len _ _ _ _ h
  refine wpAny_call (codeAny_mono (F.run A X.stack s H ⟨us, []⟩ us vs Q E sb.room e0 (by
    have := hb s us I.kIn (by simpa using hl)
    simpa using this) r h) fun r s' hq => ?_)
  cases r with
  | error e => exact hx pins σ H s e s' I hq
  | ok fl =>
    cases fl with
    | ret w => exact I.after hq
    | next => exact False.elim hq
    | brk => exact False.elim hq
    | cont => exact False.elim hq
/-- x == y, x an instance of the class at C with an own __eq__ that hands back a truth -/
def rEqO (K : PySem.W.Frag) (C : Addr) (sp : Sp) (E : XK) : R2 := fun x y H Q => ∃ a dx fs t, x = .ref a ∧ H a = some (.ins C dx fs) ∧ TyX K H y t ∧ PySem.W.notFirst K C t = true ∧
  sp [x, y] H (fun v H' => ∃ b, v = .bl b ∧ Q (.bl b) H') E
theorem op_eqO (F : FnOk X.prog X.w X.K X.mg X.base CX n f fd ps sp) (hs : PySem.W.findIn X.K (.ref C) "__eq__" = some (some (.ref f))) (hf : PySem.W.isFn X.K (.ref f) = true) (hb : Binds X.K fd ps []) (hx : Passes CX X E)
    (hr : Room n X.A) : OpR X (compareOp .Eq) (rEqO X.K C sp E) := by
  intro pins s σ H x y v u Q I rx ry hq
  obtain ⟨a, dx, fs, t, rfl, ha, ty, nf, q⟩ := hq
  cases (show v = Value.ref a from rx)
  obtain ⟨mA, J, _⟩ := ins_get I.hok ha
  obtain ⟨od, J, _⟩ := J.look
  obtain ⟨m, hF⟩ := I.fr
  obtain ⟨Pz, Z, pz, _⟩ := kit_of I ry ty
  have hu : X.A.units < cLine := Nat.lt_of_succ_lt (hu_of hr)
  refine PySem.W.cmp_K (op := .Eq) (tb := t) hu hF I.ok.mod.kin J (Z.ty _ _ I.kIn pz) nf hs hf ?_
  refine wpAny_mono (run_sub F hb hx ⟨hr, rfl⟩ I (.cons rx (.cons ry .nil)) q) (fun r s' hz => ?_) fun _ _ z => z
  obtain ⟨z, H', I', rz, b, rfl, qb⟩ := hz
  cases (show r = Value.bool b from rz)
  exact ⟨.bl b, H', I', rfl, qb⟩
/-- x != y: the default __ne__ asks the own __eq__ -/
def rNeO (K : PySem.W.Frag) (C : Addr) (sp : Sp) (E : XK) : R2 := fun x y H Q => ∃ a dx fs t, x = .ref a ∧ H a = some (.ins C dx fs) ∧ TyX K H y t ∧ PySem.W.notFirst K C t = true ∧
  sp [x, y] H (fun v H' => ∃ b, v = .bl b ∧ Q (.bl (!b)) H') E
theorem ifBound_B {M : Model} {A : Around} {E : Value → Shared → Prop} {s : Shared} {K : PySem.W.Frag} {x C : Addr} {ox : Obj} {od : Option Obj} {name : Str} {id : String} {args : List Value} {Q : Option Value → Shared → Prop} (X : K.In s.heap) (I : PySem.W.InstAt s.heap x ox C od)
    (hs : PySem.W.findIn K (.ref C) name = some (some (.builtin id))) (hb : ∀ self, bindSpecial (.builtin id) self = pure (.builtin id, [self]))
    (h : wpAny M A (call (.builtin id) (.ref x :: args)) (fun v => Q (some v)) E s) : wpAny M A (callSpecialIfBound? (.ref x) name args) Q E s := by
  simp only [callSpecialIfBound?, bindSpecialIfBound?]
  refine wpAny_holding (wpAny_bind (wpAny_bind (wpAny_bind (I.type.here ((PySem.W.looks_findIn X hs).here ?_)))))
  refine wpAny_bind (wpAny_askSetting (wpAny_ite ?_))
  have fin : wpAny M A (call (.builtin id) ([.ref x] ++ args) >>= fun v => pure (some v)) Q E s := wpAny_bind (wpAny_mono h (fun v s' h' => wpAny_pure h') fun _ _ h' => h')
  have L := (PySem.W.Looks.of_pure (M := M) (h := s.heap) (hb (.ref x)))
  split
  · exact wpAny_bind (L.here (wpAny_pure (by exact fin)))
  · exact wpAny_tryCatch (wpAny_bind (L.here (wpAny_pure (by exact fin))))
theorem op_neO (F : FnOk X.prog X.w X.K X.mg X.base CX n f fd ps sp) (hs : PySem.W.findIn X.K (.ref C) "__eq__" = some (some (.ref f))) (hf : PySem.W.isFn X.K (.ref f) = true) (hb : Binds X.K fd ps []) (hx : Passes CX X E)
    (hn : PySem.W.findIn X.K (.ref C) "__ne__" = some (some (.builtin "object.__ne__"))) (hm : PySem.W.mroIn X.K C (.type "object") = some true)
    (hr : Room (n + 1) X.A) : OpR X (compareOp .NotEq) (rNeO X.K C sp E) := by
  intro pins s σ H x y v u Q I rx ry hq
  obtain ⟨a, dx, fs, t, rfl, ha, ty, nf, q⟩ := hq
  cases (show v = Value.ref a from rx)
  obtain ⟨mA, J, _⟩ := ins_get I.hok ha
  obtain ⟨od, J, _⟩ := J.look
  obtain ⟨Pz, Z, pz, _⟩ := kit_of I ry ty
  have hu : X.A.units < cLine := Nat.lt_of_succ_lt (hu_of hr)
  have hu1 : X.A.in1.units < cLine := hu_of hr
  have K0 := I.kIn
  have run := run_sub F hb hx (A := X.A.in1) ⟨hr.in1, rfl⟩ I (.cons rx (.cons ry .nil)) q
  have one : wpAny (model X.prog X.w) X.A (tryCompare (.ref a) "__ne__" u) (fun r s' => ∃ v, r = some v ∧ EP X pins σ Q v s') X.xe s := by
    unfold tryCompare
    refine wpAny_bind (ifBound_B K0 J hn PySem.F.cmp_object.ne.bind ?_)
    refine wpAny_call (codeAny_call_builtin PySem.F.cmp_object.ne.plain PySem.F.cmpEntry_ne (PySem.W.check_slot (i := "object.__ne__") (owner := "object") (n := "__ne__") PySem.F.cmpKind_ne PySem.F.cmpSplit_ne (J.type.andThen (PySem.W.looks_mroIn K0 hm)) (PySem.F.cmpArgs_ne _ _) ?_))
    unfold Builtin.«object.__ne__»
    refine wpAny_bind (m := slotArgs "__ne__" 1 _) (wpAny_pure ?_)
    refine wpAny_bind (m := cRoomFor _ _) (wpAny_cRoomFor hu1 ?_)
    refine wpAny_bind (m := callSpecialIfBound? (.ref a) (Str.ofString "__eq__") _) (PySem.W.ifBound_K K0 J hs hf (wpAny_mono run (fun r s' hz => ?_) fun _ _ z => z))
    obtain ⟨z, H', I', rz, b, rfl, qb⟩ := hz
    cases (show r = Value.bool b from rz)
    refine wpAny_bind (wpAny_truthy_bool ?_)
    exact wpAny_pure (wpAny_pure ⟨_, rfl, .bl (!b), H', I', rfl, qb⟩)
  show wpAny (model X.prog X.w) X.A (richCompare .NotEq (.ref a) u) (EP X pins σ Q) X.xe s
  unfold richCompare
  simp only [oneThing_ref]
  refine wpAny_holding (wpAny_bind (wpAny_cRoomFor hu ?_))
  refine wpAny_bind (J.type.here (wpAny_bind ((Z.ty _ _ I.kIn pz).here ?_)))
  split
  · rename_i q2
    have e : PySem.W.subIn X.K t (.ref C) = some false := by
      rcases Bool.or_eq_true_iff.mp nf with e | e
      · rw [beq_iff_eq.mp e] at q2; simp at q2
      · exact beq_iff_eq.mp e
    refine wpAny_bind ((PySem.W.looks_subIn K0 e).here ?_)
    simp only [Bool.false_eq_true, if_false]
    refine wpAny_bind (wpAny_mono one (fun r s' z => ?_) fun _ _ e => e)
    obtain ⟨v, rfl, hq⟩ := z
    exact wpAny_pure hq
  · refine wpAny_bind (wpAny_pure ?_)
    simp only [Bool.false_eq_true, if_false]
    refine wpAny_bind (wpAny_mono one (fun r s' z => ?_) fun _ _ e => e)
    obtain ⟨v, rfl, hq⟩ := z
    exact wpAny_pure hq
/-! ### str(x) by an own __str__ -/
def rStrO (C : Addr) (sp : Sp) (E : XK) : List V → Hp → VK → Prop := fun xs H Q => ∃ a dx fs, xs = [.ref a] ∧ H a = some (.ins C dx fs) ∧ sp [.ref a] H (fun v H' => ∃ z, v = .str z ∧ Q (.str z) H') E
theorem call_strO (F : FnOk X.prog X.w X.K X.mg X.base CX n f fd ps sp) (hs : PySem.W.findIn X.K (.ref C) "__str__" = some (some (.ref f))) (hf : PySem.W.isFn X.K (.ref f) = true) (hb : Binds X.K fd ps []) (hx : Passes CX X E)
    (hr : Room (n + 2) X.A) : CallR X (.type "str") (rStrO C sp E) := by
  intro pins s σ H xs us Q I r hq
  obtain ⟨a, dx, fs, rfl, ha, q⟩ := hq
  obtain ⟨u, rfl, rx⟩ : ∃ u, us = [u] ∧ RelV (.ref a) u := by
    cases r with
    | cons r rr => cases rr; exact ⟨_, rfl, r⟩
  cases (show u = Value.ref a from rx)
  obtain ⟨mA, J, _⟩ := ins_get I.hok ha
  obtain ⟨od, J, _⟩ := J.look
  have hr2 : Room n X.A.in1.in1 := hr.in1.in1
  have hu : X.A.in1.in1.units < cLine := Nat.lt_of_succ_lt (hu_of hr2)
  refine PySem.W.kso_call hu I.kIn J hs hf ?_
  refine wpAny_mono (run_sub F hb hx (A := X.A.in1.in1) ⟨hr2, rfl⟩ I (.cons rx .nil) q) (fun r s' hz => ?_) fun _ _ z => z
  obtain ⟨z, H', I', rz, x, rfl, qb⟩ := hz
  obtain ⟨t, e⟩ := (show ∃ t, r = Value.str x t from rz)
  cases e
  exact ⟨.str x, H', I', ⟨t, rfl⟩, qb⟩
/-! ### // by a number of either sign -/
def CDivNW (_ j : Int) : Prop := j ≠ 0 ∧ j.natAbs.log2 < 9000
theorem op_fdivNW : OpR X (binaryOp .FloorDiv) (rI CDivNW fun i j => .int (i.fdiv j)) := opI fun _ _ _ _ _ _ _ hc q => floordiv_int hc.1 q (.inl (PyProof.noPylong_of_log2 hc.2))
end
end TCA
/-! The mathematics, in plain Lean. -/
namespace TCM
/-! ### the greatest common divisor, by steps with Python's remainder -/
theorem gcd_fmod (a b : Int) : Int.gcd b (a.fmod b) = Int.gcd a b := by
  have e : a.fmod b = a - b * a.fdiv b := by
    have := Int.fmod_add_mul_fdiv a b
    omega
  rw [e, Int.gcd_comm a b]
  apply Nat.dvd_antisymm
  · refine Int.dvd_gcd (Int.gcd_dvd_left ..) ?_
    have h1 : ((Int.gcd b (a - b * a.fdiv b) : Nat) : Int) ∣ b := Int.gcd_dvd_left ..
    have h2 : ((Int.gcd b (a - b * a.fdiv b) : Nat) : Int) ∣ a - b * a.fdiv b := Int.gcd_dvd_right ..
    have h3 := Int.dvd_add h2 (Int.dvd_mul_of_dvd_left (c := a.fdiv b) h1)
    have e2 : a - b * a.fdiv b + b * a.fdiv b = a := by omega
    rw [e2] at h3
    exact h3
  · refine Int.dvd_gcd (Int.gcd_dvd_left ..) ?_
    have h1 : ((Int.gcd b a : Nat) : Int) ∣ b := Int.gcd_dvd_left ..
    have h2 : ((Int.gcd b a : Nat) : Int) ∣ a := Int.gcd_dvd_right ..
    exact Int.dvd_sub h2 (Int.dvd_mul_of_dvd_left (c := a.fdiv b) h1)
theorem fmod_lt (a b : Int) (h : b ≠ 0) : (a.fmod b).natAbs < b.natAbs := by
  rcases Int.lt_or_gt_of_ne h with hb | hb
  · have h1 : a.fmod b = a % b + if 0 ≤ b ∨ b ∣ a then 0 else b := Int.fmod_eq_emod
    have := Int.emod_nonneg a h
    have := Int.emod_lt_of_pos a (b := -b) (by omega)
    rw [Int.emod_neg] at this
    rw [h1]
    split
    · omega
    · rename_i z
      have : a % b ≠ 0 := fun e => z (.inr (Int.dvd_of_emod_eq_zero e))
      omega
  · have h1 := Int.fmod_nonneg_of_pos a hb
    have h2 := Int.fmod_lt_of_pos a hb
    omega
theorem abs_eq (i : Int) : (if i < 0 then -i else i) = ((i.natAbs : Nat) : Int) := by
  split <;> omega
/-! ### a fraction in lowest terms -/
def sgn (t b : Int) : Int := if b < 0 then -((Int.gcd t b : Nat) : Int) else ((Int.gcd t b : Nat) : Int)
def low (t b : Int) : Int × Int := (t.fdiv (sgn t b), b.fdiv (sgn t b))
/-- as the law says it -/
def lowL (t b : Int) : Int × Int := if 0 < b then (t.fdiv ((Int.gcd t b : Nat) : Int), b.fdiv ((Int.gcd t b : Nat) : Int)) else ((-t).fdiv ((Int.gcd t b : Nat) : Int), (-b).fdiv ((Int.gcd t b : Nat) : Int))
theorem low_eq (t b : Int) (h : b ≠ 0) : low t b = lowL t b := by
  unfold low lowL sgn
  by_cases hb : b < 0
  · rw [if_pos hb, if_neg (by omega)]
    have e1 := Int.neg_fdiv_neg (-t) ((Int.gcd t b : Nat) : Int)
    have e2 := Int.neg_fdiv_neg (-b) ((Int.gcd t b : Nat) : Int)
    rw [Int.neg_neg] at e1 e2
    rw [e1, e2]
  · rw [if_neg hb, if_pos (by omega)]
theorem gcd_pos (t b : Int) (h : b ≠ 0) : 0 < Int.gcd t b := by
  have : Int.gcd t b ≠ 0 := fun e => h (Int.gcd_eq_zero_iff.mp e).2
  omega
theorem gcd_le (t b : Int) (h : b ≠ 0) : Int.gcd t b ≤ b.natAbs := by
  show Nat.gcd t.natAbs b.natAbs ≤ b.natAbs
  exact Nat.gcd_le_right _ (by omega)
theorem sgn_ne (t b : Int) (h : b ≠ 0) : sgn t b ≠ 0 := by
  have := gcd_pos t b h
  unfold sgn
  split <;> omega
theorem sgn_abs (t b : Int) : (sgn t b).natAbs = Int.gcd t b := by
  unfold sgn
  split <;> omega
/-- the quotients are no larger -/
theorem fdiv_abs (t d : Int) (h : d ≠ 0) (hd : d ∣ t) : (t.fdiv d).natAbs ≤ t.natAbs := by
  obtain ⟨k, rfl⟩ := hd
  rw [Int.mul_fdiv_cancel_left k h, Int.natAbs_mul]
  exact Nat.le_mul_of_pos_left _ (by omega)
theorem sgn_dvd (t b : Int) : sgn t b ∣ t ∧ sgn t b ∣ b := by
  have h1 : ((Int.gcd t b : Nat) : Int) ∣ t := Int.gcd_dvd_left ..
  have h2 : ((Int.gcd t b : Nat) : Int) ∣ b := Int.gcd_dvd_right ..
  unfold sgn
  split
  · exact ⟨Int.neg_dvd.mpr h1, Int.neg_dvd.mpr h2⟩
  · exact ⟨h1, h2⟩
theorem low_abs (t b : Int) (h : b ≠ 0) : (low t b).1.natAbs ≤ t.natAbs ∧ (low t b).2.natAbs ≤ b.natAbs :=
  ⟨fdiv_abs t _ (sgn_ne t b h) (sgn_dvd t b).1, fdiv_abs b _ (sgn_ne t b h) (sgn_dvd t b).2⟩
theorem low_pos (t b : Int) (h : b ≠ 0) : 0 < (low t b).2 := by
  obtain ⟨k, hk⟩ := (sgn_dvd t b).2
  have hs := sgn_ne t b h
  have e : (low t b).2 = k := by
    show b.fdiv (sgn t b) = k
    rw [hk, ← hk]
    have e2 : b.fdiv (sgn t b) = (sgn t b * k).fdiv (sgn t b) := by rw [← hk]
    rw [e2]
    exact Int.mul_fdiv_cancel_left k hs
  rw [e]
  have g0 := gcd_pos t b h
  unfold sgn at hk
  by_cases hb : b < 0
  · rw [if_pos hb] at hk
    rcases Int.lt_trichotomy k 0 with z | z | z
    · exfalso
      have := Int.mul_nonneg_of_nonpos_of_nonpos (a := -((Int.gcd t b : Nat) : Int)) (b := k) (by omega) (by omega)
      omega
    · rw [z] at hk
      omega
    · exact z
  · rw [if_neg hb] at hk
    rcases Int.lt_trichotomy k 0 with z | z | z
    · exfalso
      have := Int.mul_nonneg (a := ((Int.gcd t b : Nat) : Int)) (b := -k) (by omega) (by omega)
      rw [Int.mul_neg] at this
      omega
    · rw [z] at hk
      omega
    · exact z
theorem low_one (t : Int) : low t 1 = (t, 1) := by
  unfold low sgn
  rw [if_neg (by decide), Int.gcd_one]
  show (t.fdiv 1, (1 : Int).fdiv 1) = (t, 1)
  rw [Int.fdiv_one]
  rfl
/-! ### squares taken out -/
/-- while n % (p * p) == 0: n //= p * p; o *= p -/
def whl : Nat → Int → Int → Int → Int × Int
  | 0, _, n, o => (n, o)
  | k + 1, p, n, o => if n % (p * p) = 0 then whl k p (n / (p * p)) (o * p) else (n, o)
/-- as squares_out goes on: over the primes, until 1 is left: (outside, inside, rest) -/
def sqL : List Int → Int → Int → Int → Int × Int × Int
  | [], n, o, i => (o, i, n)
  | p :: ps, n, o, i => if n = 1 then (o, i, n) else
    if (whl 10 p n o).1 % p = 0 then sqL ps ((whl 10 p n o).1 / p) (whl 10 p n o).2 (i * p) else sqL ps (whl 10 p n o).1 (whl 10 p n o).2 i
/-- as the law goes on: over all numbers -/
def fr : Nat → Int → Int → Int → Int × Int
  | 0, _, n, s => (s, n)
  | k + 1, p, n, s => if p * p ≤ n then fr k (p + 1) (whl 10 p n s).1 (whl 10 p n s).2 else (s, n)
theorem sq_div {n q : Int} (h0 : 0 < n) (hq : 4 ≤ q) (h : n % q = 0) : 0 < n / q ∧ n / q * 4 ≤ n ∧ n / q < n := by
  have e := Int.mul_ediv_add_emod n q
  rw [h, Int.add_zero] at e
  have h1 : 0 < n / q := by
    rcases Int.lt_or_le 0 (n / q) with z | z
    · exact z
    · have := Int.mul_le_mul_of_nonneg_left z (show 0 ≤ q by omega)
      rw [Int.mul_zero] at this
      omega
  have h2 : n / q * 4 ≤ n / q * q := Int.mul_le_mul_of_nonneg_left hq (by omega)
  rw [Int.mul_comm q] at e
  exact ⟨h1, by omega, by omega⟩
theorem pp4 {p : Int} (h : 2 ≤ p) : 4 ≤ p * p := by
  have := Int.mul_le_mul h h (by omega) (by omega)
  omega
theorem whl_ok : ∀ (k : Nat) (p n o : Int), 2 ≤ p → 0 < n → 0 < (whl k p n o).1 ∧ (whl k p n o).1 ≤ n
  | 0, p, n, o, _, h => ⟨h, Int.le_refl _⟩
  | k + 1, p, n, o, hp, h => by
    unfold whl
    split
    · rename_i z
      obtain ⟨a, b, c⟩ := sq_div h (pp4 hp) z
      obtain ⟨d, e⟩ := whl_ok k p (n / (p * p)) (o * p) hp a
      exact ⟨d, by omega⟩
    · exact ⟨h, Int.le_refl _⟩
/-- the loop's measure: whl with more fuel is the same -/
theorem whl_fuel : ∀ (k j : Nat) (p n o : Int), 2 ≤ p → 0 < n → n < 4 ^ k → whl (k + j) p n o = whl k p n o
  | 0, j, p, n, o, _, h, h2 => by
    have : n < 1 := h2
    omega
  | k + 1, j, p, n, o, hp, h, h2 => by
    rw [Nat.add_right_comm]
    show (if n % (p * p) = 0 then whl (k + j) p (n / (p * p)) (o * p) else (n, o)) = (if n % (p * p) = 0 then whl k p (n / (p * p)) (o * p) else (n, o))
    split
    · rename_i z
      obtain ⟨a, b, c⟩ := sq_div h (pp4 hp) z
      exact whl_fuel k j p _ _ hp a (by
        have e : (4 : Int) ^ (k + 1) = 4 ^ k * 4 := Int.pow_succ ..
        omega)
    · rfl
def primes : List Int := [2, 3, 5, 7, 11, 13, 17, 19, 23, 29, 31, 37, 41, 43, 47, 53, 59, 61, 67, 71, 73, 79, 83, 89, 97, 101, 103, 107, 109, 113, 127, 131, 137, 139, 149, 151, 157, 163, 167, 173, 179, 181, 191, 193, 197, 199, 211, 223, 227, 229, 233, 239, 241, 251, 257, 263, 269, 271, 277, 281, 283, 293, 307, 311, 313, 317, 331, 337, 347, 349, 353, 359, 367, 373, 379, 383, 389, 397, 401, 409, 419, 421, 431, 433, 439, 443, 449, 457, 461, 463, 467, 479, 487, 491, 499, 503, 509, 521, 523, 541, 547, 557, 563, 569, 571, 577, 587, 593, 599, 601, 607, 613, 617, 619, 631, 641, 643, 647, 653, 659, 661, 673, 677, 683, 691, 701, 709, 719, 727, 733, 739, 743, 751, 757, 761, 769, 773, 787, 797, 809, 811, 821, 823, 827, 829, 839, 853, 857, 859, 863, 877, 881, 883, 887, 907, 911, 919, 929, 937, 941, 947, 953, 967, 971, 977, 983, 991, 997]
def sqOut (n : Int) : Int × Int × Int := if n = 0 then (0, 1, 1) else sqL primes n 1 1
def free (n : Int) : Int × Int := fr 1000 2 n 1
/-- the roots that the law takes -/
def chk (r : Int) : Bool := match sqOut r, free r with
  | (o, i, m), (s, f) => decide (m = 1) && (decide (0 ≤ o) && (decide (o ≤ 1000) && (decide (1 ≤ i) && (decide (i ≤ 1000000) && (decide (r = 0) || (decide (0 < o) && (decide (s = o) && decide (f = i))))))))
def some11 : List Int := [0, 1, 4, 12, 997, 997 * 997, 2 ^ 19, 510510, 720720, 1000000, 30 * 30 * 7]
theorem chk_11 : some11.all chk = true := by decide +kernel
theorem chk_900 : (List.range 900).all (fun k => chk (1 + (k : Int))) = true := by decide +kernel
def Ok (r : Int) : Prop := 0 ≤ r ∧ r ≤ 1000000 ∧ chk r = true
theorem ok_11 {r : Int} (h : r ∈ some11) : Ok r := by
  refine ⟨?_, ?_, List.all_eq_true.mp chk_11 r h⟩
  · revert r; decide
  · revert r; decide
theorem ok_900 {d : Int} (h0 : 0 ≤ d) (h1 : d < 900) : Ok (1 + d) := by
  refine ⟨by omega, by omega, ?_⟩
  have := List.all_eq_true.mp chk_900 d.toNat (List.mem_range.mpr (by omega))
  rw [Int.toNat_of_nonneg h0] at this
  exact this
theorem Ok.all {r : Int} (h : Ok r) : (sqOut r).2.2 = 1 ∧ 0 ≤ (sqOut r).1 ∧ (sqOut r).1 ≤ 1000 ∧ 1 ≤ (sqOut r).2.1 ∧ (sqOut r).2.1 ≤ 1000000 ∧ (r ≠ 0 → 0 < (sqOut r).1 ∧ free r = ((sqOut r).1, (sqOut r).2.1)) := by
  obtain ⟨_, _, h⟩ := h
  unfold chk at h
  generalize sqOut r = a at h ⊢
  generalize free r = b at h ⊢
  obtain ⟨o, i, m⟩ := a
  obtain ⟨s, f⟩ := b
  simp only [Bool.and_eq_true, Bool.or_eq_true, decide_eq_true_eq] at h
  obtain ⟨h1, h2, h3, h4, h5, h6⟩ := h
  refine ⟨h1, h2, h3, h4, h5, fun hr => ?_⟩
  rcases h6 with h6 | ⟨h6, h7, h8⟩
  · exact absurd h6 hr
  · exact ⟨h6, by rw [h7, h8]⟩
/-- what exact comes to: no part, or one -/
def ex (top bottom root : Int) : Option (Int × Int × Int) :=
  if top * (sqOut root).1 = 0 then none else some ((sqOut root).2.1, (low (top * (sqOut root).1) bottom).1, (low (top * (sqOut root).1) bottom).2)
/-- what is due, as the law says it -/
def due (up under r : Int) : Option (Int × Int × Int) :=
  if up = 0 ∨ r = 0 then none else some ((free r).2, (lowL (up * (free r).1) under).1, (lowL (up * (free r).1) under).2)
theorem ex_due {t b r : Int} (hb : b ≠ 0) (h : Ok r) : ex t b r = due t b r := by
  obtain ⟨h1, h2, h3, h4, h5, h6⟩ := h.all
  unfold ex due
  by_cases hr : r = 0
  · subst hr
    rw [if_pos (show t * (sqOut 0).1 = 0 from Int.mul_zero _), if_pos (Or.inr rfl)]
  · obtain ⟨h7, h8⟩ := h6 hr
    rw [h8, ← low_eq _ _ hb]
    by_cases ht : t = 0
    · subst ht
      rw [if_pos (Int.zero_mul _), if_pos (Or.inl rfl)]
    · rw [if_neg (show ¬ t * (sqOut r).1 = 0 from fun e => by
        rcases Int.mul_eq_zero.mp e with e | e <;> omega), if_neg (show ¬ (t = 0 ∨ r = 0) by omega)]
theorem ok_one : Ok 1 := ok_11 (by decide)
theorem sq_one : sqOut 1 = (1, 1, 1) := by decide +kernel
theorem ex_one (t : Int) : ex t 1 1 = if t = 0 then none else some (1, t, 1) := by
  unfold ex
  rw [sq_one]
  show (if t * 1 = 0 then none else some ((1 : Int), (low (t * 1) 1).1, (low (t * 1) 1).2)) = _
  rw [Int.mul_one, low_one]
theorem ex_succ (t : Int) : ex t 1 1 ≠ ex (t + 1) 1 1 := by
  rw [ex_one, ex_one]
  split <;> split
  · omega
  · simp
  · simp
  · simp only [ne_eq, Option.some.injEq, Prod.mk.injEq, not_and]
    omega
end TCM
/-! Sums of fractions times roots, as lists of (root, fraction). -/
namespace TCR
open TCM
/-! ### fractions -/
theorem low_rat (t b : Int) (h : b ≠ 0) : low t b = ((Rat.divInt t b).num, ((Rat.divInt t b).den : Int)) := by
  have gp := gcd_pos t b h
  have e1 : (Rat.divInt t b).num = b.sign * t / ((b.gcd t : Nat) : Int) := Rat.num_divInt t b
  have e2 : (Rat.divInt t b).den = b.natAbs / b.gcd t := by rw [Rat.den_divInt, if_neg h]
  rw [e1, e2, Int.gcd_comm b t]
  obtain ⟨k, hk⟩ : ((Int.gcd t b : Nat) : Int) ∣ t := Int.gcd_dvd_left ..
  obtain ⟨m, hm⟩ : ((Int.gcd t b : Nat) : Int) ∣ b := Int.gcd_dvd_right ..
  have g0 : ((Int.gcd t b : Nat) : Int) ≠ 0 := by omega
  have x1 : low t b = (if b < 0 then (-k, -m) else (k, m)) := by
    unfold low sgn
    by_cases hb : b < 0
    · rw [if_pos hb, if_pos hb]
      have a1 : t.fdiv (-((Int.gcd t b : Nat) : Int)) = -k := by
        have z : t = (-((Int.gcd t b : Nat) : Int)) * (-k) := by rw [Int.neg_mul_neg]; exact hk
        have z2 := Int.mul_fdiv_cancel_left (-k) (show (-((Int.gcd t b : Nat) : Int)) ≠ 0 by omega)
        rw [← z] at z2
        exact z2
      have a2 : b.fdiv (-((Int.gcd t b : Nat) : Int)) = -m := by
        have z : b = (-((Int.gcd t b : Nat) : Int)) * (-m) := by rw [Int.neg_mul_neg]; exact hm
        have z2 := Int.mul_fdiv_cancel_left (-m) (show (-((Int.gcd t b : Nat) : Int)) ≠ 0 by omega)
        rw [← z] at z2
        exact z2
      rw [a1, a2]
    · rw [if_neg hb, if_neg hb]
      have a1 : t.fdiv ((Int.gcd t b : Nat) : Int) = k := by
        have z2 := Int.mul_fdiv_cancel_left k g0
        rw [← hk] at z2
        exact z2
      have a2 : b.fdiv ((Int.gcd t b : Nat) : Int) = m := by
        have z2 := Int.mul_fdiv_cancel_left m g0
        rw [← hm] at z2
        exact z2
      rw [a1, a2]
  rw [x1]
  have y2 : ((b.natAbs / Int.gcd t b : Nat) : Int) = (m.natAbs : Int) := by
    have : b.natAbs = Int.gcd t b * m.natAbs := by
      have z := congrArg Int.natAbs hm
      rw [Int.natAbs_mul] at z
      simpa using z
    rw [this, Nat.mul_div_cancel_left _ gp]
  have y1 : b.sign * t / ((Int.gcd t b : Nat) : Int) = b.sign * k := by
    have : b.sign * t = ((Int.gcd t b : Nat) : Int) * (b.sign * k) := by
      rw [Int.mul_left_comm, ← hk]
    rw [this, Int.mul_ediv_cancel_left _ g0]
  rw [y1, y2]
  have gn : (0 : Int) < ((Int.gcd t b : Nat) : Int) := by omega
  by_cases hb : b < 0
  · rw [if_pos hb, Int.sign_eq_neg_one_of_neg hb]
    have : m < 0 := by
      rcases Int.lt_or_le m 0 with z | z
      · exact z
      · have := Int.mul_nonneg (Int.le_of_lt gn) z
        omega
    rw [Int.neg_mul, Int.one_mul]
    congr 1
    omega
  · rw [if_neg hb, Int.sign_eq_one_of_pos (by omega)]
    have : 0 ≤ m := by
      rcases Int.lt_or_le m 0 with z | z
      · have := Int.mul_nonneg (Int.le_of_lt gn) (show 0 ≤ -m by omega)
        rw [Int.mul_neg] at this
        omega
      · exact z
    rw [Int.one_mul]
    congr 1
    omega
theorem lowL_rat (t b : Int) (h : b ≠ 0) : lowL t b = ((Rat.divInt t b).num, ((Rat.divInt t b).den : Int)) := by
  rw [← low_eq t b h, low_rat t b h]
/-- the sum as sum_in_lowest makes it -/
theorem sum_low (a b : Rat) :
    let g := Nat.gcd a.den b.den
    let num := a.num * ((b.den / g : Nat) : Int) + b.num * ((a.den / g : Nat) : Int)
    let l := Nat.gcd num.natAbs g
    (a + b).num = num / (l : Int) ∧ (a + b).den = (a.den / g) * (b.den / l) ∧ 0 < g ∧ 0 < l ∧ g ∣ a.den ∧ g ∣ b.den ∧ (l : Int) ∣ num ∧ l ∣ b.den := by
  intro g num l
  have ga : g ∣ a.den := Nat.gcd_dvd_left ..
  have gb : g ∣ b.den := Nat.gcd_dvd_right ..
  have g0 : 0 < g := Nat.gcd_pos_of_pos_left _ a.den_pos
  have l0 : 0 < l := Nat.gcd_pos_of_pos_right _ g0
  have lb : l ∣ b.den := Nat.dvd_trans (Nat.gcd_dvd_right ..) gb
  have aux : Nat.gcd num.natAbs g = Nat.gcd num.natAbs ((a.den / g) * b.den) := Rat.add.aux a b rfl rfl rfl
  have dn : (a.den / g) * b.den ≠ 0 := by
    have h1 : 0 < a.den / g := Nat.div_pos (Nat.le_of_dvd a.den_pos ga) g0
    exact Nat.ne_of_gt (Nat.mul_pos h1 b.den_pos)
  have es : a + b = mkRat num ((a.den / g) * b.den) := by
    rw [Rat.add_def' a b]
    rw [Rat.mkRat_eq_iff (Nat.mul_ne_zero a.den_nz b.den_nz) dn]
    obtain ⟨u, hu⟩ := ga
    obtain ⟨v, hv⟩ := gb
    have u1 : a.den / g = u := by rw [hu]; exact Nat.mul_div_cancel_left _ g0
    have v1 : b.den / g = v := by rw [hv]; exact Nat.mul_div_cancel_left _ g0
    show _ = (a.num * ((b.den / g : Nat) : Int) + b.num * ((a.den / g : Nat) : Int)) * _
    rw [u1, v1, hu, hv]
    push_cast
    grind
  have en : mkRat num ((a.den / g) * b.den) = Rat.normalize num ((a.den / g) * b.den) dn := by
    rw [Rat.normalize_eq_mkRat]
  have en2 := Rat.normalize_eq (num := num) dn
  refine ⟨?_, ?_, g0, l0, ga, gb, ?_, lb⟩
  · rw [es, en, en2]
    show num / ((Nat.gcd num.natAbs ((a.den / g) * b.den) : Nat) : Int) = num / ((Nat.gcd num.natAbs g : Nat) : Int)
    rw [aux]
  · rw [es, en, en2]
    show (a.den / g) * b.den / (Nat.gcd num.natAbs ((a.den / g) * b.den)) = (a.den / g) * (b.den / l)
    rw [← aux, Nat.mul_div_assoc _ lb]
  · exact Int.ofNat_dvd_left.mpr (Nat.gcd_dvd_left ..)
/-! ### sizes -/
def Sz (B : Nat) (q : Rat) : Prop := q.num.natAbs < 2 ^ B ∧ q.den < 2 ^ B
theorem Sz.mono {B C : Nat} {q : Rat} (h : Sz B q) (hc : B ≤ C) : Sz C q := by
  have := Nat.pow_le_pow_right (show 0 < 2 by decide) hc
  exact ⟨Nat.lt_of_lt_of_le h.1 this, Nat.lt_of_lt_of_le h.2 this⟩
theorem Sz.neg {B : Nat} {q : Rat} (h : Sz B q) : Sz B (-q) := by
  refine ⟨?_, ?_⟩
  · rw [Rat.neg_num, Int.natAbs_neg]
    exact h.1
  · rw [Rat.neg_den]
    exact h.2
theorem Sz.zero {B : Nat} (h : 0 < B) : Sz B 0 := ⟨Nat.pow_pos (by decide), Nat.one_lt_two_pow (by omega)⟩
theorem Sz.add {A B : Nat} {p q : Rat} (h : Sz A p) (k : Sz B q) : Sz (A + B + 1) (p + q) := by
  obtain ⟨e1, e2, g0, l0, ga, gb, ln, lb⟩ := sum_low p q
  have b1 : q.den / Nat.gcd p.den q.den ≤ q.den := Nat.div_le_self ..
  have a1 : p.den / Nat.gcd p.den q.den ≤ p.den := Nat.div_le_self ..
  have P1 : p.num.natAbs * q.den < 2 ^ A * 2 ^ B := Nat.mul_lt_mul'' h.1 k.2
  have P2 : q.num.natAbs * p.den < 2 ^ A * 2 ^ B := by
    rw [Nat.mul_comm (2 ^ A)]
    exact Nat.mul_lt_mul'' k.1 h.2
  have P3 : p.den * q.den < 2 ^ A * 2 ^ B := Nat.mul_lt_mul'' h.2 k.2
  have ep : 2 ^ (A + B + 1) = 2 ^ A * 2 ^ B * 2 := by rw [Nat.pow_succ, Nat.pow_add]
  refine ⟨?_, ?_⟩
  · rw [e1]
    have d1 := Int.natAbs_ediv_le_natAbs (p.num * ((q.den / Nat.gcd p.den q.den : Nat) : Int) + q.num * ((p.den / Nat.gcd p.den q.den : Nat) : Int)) ((Nat.gcd (p.num * ((q.den / Nat.gcd p.den q.den : Nat) : Int) + q.num * ((p.den / Nat.gcd p.den q.den : Nat) : Int)).natAbs (Nat.gcd p.den q.den) : Nat) : Int)
    have d2 := Int.natAbs_add_le (p.num * ((q.den / Nat.gcd p.den q.den : Nat) : Int)) (q.num * ((p.den / Nat.gcd p.den q.den : Nat) : Int))
    rw [Int.natAbs_mul, Int.natAbs_mul] at d2
    have m1 : p.num.natAbs * ((q.den / Nat.gcd p.den q.den : Nat) : Int).natAbs ≤ p.num.natAbs * q.den := Nat.mul_le_mul (Nat.le_refl _) (by rw [Int.natAbs_natCast]; exact b1)
    have m2 : q.num.natAbs * ((p.den / Nat.gcd p.den q.den : Nat) : Int).natAbs ≤ q.num.natAbs * p.den := Nat.mul_le_mul (Nat.le_refl _) (by rw [Int.natAbs_natCast]; exact a1)
    omega
  · rw [e2]
    have m1 := Nat.mul_le_mul a1 (Nat.div_le_self q.den (Nat.gcd (p.num * ((q.den / Nat.gcd p.den q.den : Nat) : Int) + q.num * ((p.den / Nat.gcd p.den q.den : Nat) : Int)).natAbs (Nat.gcd p.den q.den)))
    omega
theorem Sz.divInt {B : Nat} {t b : Int} (h : b ≠ 0) (ht : t.natAbs < 2 ^ B) (hb : b.natAbs < 2 ^ B) : Sz B (Rat.divInt t b) := by
  obtain ⟨l1, l2⟩ := low_abs t b h
  rw [low_rat t b h] at l1 l2
  exact ⟨Nat.lt_of_le_of_lt l1 ht, Nat.lt_of_le_of_lt (by simpa using l2) hb⟩
/-! ### lists of roots and fractions -/
def val : List (Int × Rat) → Int → Rat
  | [], _ => 0
  | (a, q) :: L, r => if a = r then q else val L r
structure Canon (L : List (Int × Rat)) : Prop where
  srt : L.Pairwise (fun x y => x.1 < y.1)
  nz : ∀ x ∈ L, x.2 ≠ 0
theorem val_not : ∀ {L : List (Int × Rat)} {r : Int}, (∀ x ∈ L, x.1 ≠ r) → val L r = 0
  | [], _, _ => rfl
  | (a, q) :: L, r, h => by
    show (if a = r then q else val L r) = 0
    rw [if_neg (h _ (List.mem_cons_self ..)), val_not fun x hx => h x (List.mem_cons_of_mem _ hx)]
theorem Canon.tail {x : Int × Rat} {L : List (Int × Rat)} (c : Canon (x :: L)) : Canon L := ⟨(List.pairwise_cons.mp c.srt).2, fun y hy => c.nz y (List.mem_cons_of_mem _ hy)⟩
theorem Canon.mem {L : List (Int × Rat)} (c : Canon L) {x : Int × Rat} (h : x ∈ L) : val L x.1 = x.2 := by
  induction L with
  | nil => cases h
  | cons y L ih =>
    obtain ⟨a, q⟩ := y
    rcases List.mem_cons.mp h with e | e
    · subst e
      exact if_pos rfl
    · have lt := (List.pairwise_cons.mp c.srt).1 x e
      show (if a = x.1 then q else val L x.1) = x.2
      rw [if_neg (by simp at lt; omega), ih c.tail e]
theorem Canon.val_ne {L : List (Int × Rat)} (c : Canon L) {r : Int} : val L r ≠ 0 ↔ ∃ q, (r, q) ∈ L := by
  refine ⟨fun h => ?_, fun ⟨q, h⟩ => ?_⟩
  · rcases Classical.em (∃ q, (r, q) ∈ L) with z | z
    · exact z
    · exact absurd (val_not fun x hx e => z ⟨x.2, by rw [← e]; exact hx⟩) h
  · rw [c.mem h]
    exact c.nz _ h
theorem canon_eq : ∀ {L M : List (Int × Rat)}, Canon L → Canon M → (∀ r, val L r = val M r) → L = M
  | [], [], _, _, _ => rfl
  | [], y :: M, _, c, h => by
    have z := h y.1
    rw [c.mem (List.mem_cons_self ..)] at z
    exact absurd z.symm (c.nz y (List.mem_cons_self ..))
  | x :: L, [], c, _, h => by
    have z := h x.1
    rw [c.mem (List.mem_cons_self ..)] at z
    exact absurd z (c.nz x (List.mem_cons_self ..))
  | x :: L, y :: M, c, d, h => by
    have key : x.1 = y.1 := by
      have lx : ∀ z ∈ L, x.1 < z.1 := (List.pairwise_cons.mp c.srt).1
      have ly : ∀ z ∈ M, y.1 < z.1 := (List.pairwise_cons.mp d.srt).1
      rcases Int.lt_trichotomy x.1 y.1 with z | z | z
      · have e := h x.1
        rw [c.mem (List.mem_cons_self ..), val_not (L := y :: M) (fun w hw => by
          rcases List.mem_cons.mp hw with e | e
          · rw [e]
            omega
          · have := ly w e
            omega)] at e
        exact absurd e (c.nz x (List.mem_cons_self ..))
      · exact z
      · have e := h y.1
        rw [d.mem (List.mem_cons_self ..), val_not (L := x :: L) (fun w hw => by
          rcases List.mem_cons.mp hw with e | e
          · rw [e]
            omega
          · have := lx w e
            omega)] at e
        exact absurd e.symm (d.nz y (List.mem_cons_self ..))
    have v : x.2 = y.2 := by
      have e := h x.1
      rw [c.mem (List.mem_cons_self ..), key, d.mem (List.mem_cons_self ..)] at e
      exact e
    have exy : x = y := Prod.ext key v
    subst exy
    rw [canon_eq c.tail d.tail fun r => ?_]
    by_cases e : x.1 = r
    · have lx : ∀ z ∈ L, x.1 < z.1 := (List.pairwise_cons.mp c.srt).1
      have ly : ∀ z ∈ M, x.1 < z.1 := (List.pairwise_cons.mp d.srt).1
      rw [val_not (fun w hw => by have := lx w hw; omega), val_not (fun w hw => by have := ly w hw; omega)]
    · have z := h r
      obtain ⟨a, q⟩ := x
      have z2 : (if a = r then q else val L r) = (if a = r then q else val M r) := z
      rw [if_neg e, if_neg e] at z2
      exact z2
/-! ### from a sorted list of keys -/
def kept (g : Int → Rat) (ns : List Int) : List (Int × Rat) := (ns.filter fun r => decide (g r ≠ 0)).map fun r => (r, g r)
theorem val_kept (g : Int → Rat) : ∀ {ns : List Int} (r : Int), (r ∉ ns → g r = 0) → val (kept g ns) r = g r
  | [], r, h => (h (by simp)).symm
  | n :: ns, r, h => by
    unfold kept
    by_cases hn : g n ≠ 0
    · rw [List.filter_cons, if_pos (by simpa using hn), List.map_cons]
      show (if n = r then g n else val (kept g ns) r) = g r
      by_cases e : n = r
      · rw [if_pos e, e]
      · rw [if_neg e, val_kept g r fun z => h (by
          rw [List.mem_cons]
          rintro (w | w)
          · exact e w.symm
          · exact z w)]
    · rw [List.filter_cons, if_neg (by simpa using hn)]
      show val (kept g ns) r = g r
      by_cases e : n = r
      · subst e
        have e0 : g n = 0 := Classical.not_not.mp hn
        by_cases m : n ∈ ns
        · exact val_kept g n fun z => absurd m z
        · rw [e0]
          refine val_not fun x hx => ?_
          unfold kept at hx
          obtain ⟨s, hs, rfl⟩ := List.mem_map.mp hx
          intro z
          have : s = n := z
          subst this
          exact m (List.mem_filter.mp hs).1
      · exact val_kept g r fun z => h (by
          rw [List.mem_cons]
          rintro (w | w)
          · exact e w.symm
          · exact z w)
theorem canon_kept (g : Int → Rat) {ns : List Int} (nd : ns.Nodup) (srt : ns.Pairwise (· ≤ ·)) : Canon (kept g ns) := by
  refine ⟨?_, fun x hx => ?_⟩
  · unfold kept
    rw [List.pairwise_map]
    have lt : ns.Pairwise (fun a b => a < b) := (List.pairwise_and_iff.mpr ⟨srt, nd⟩).imp fun {a b} h => by
      have h1 : a ≤ b := h.1
      have h2 : a ≠ b := h.2
      omega
    exact lt.filter _
  · unfold kept at hx
    obtain ⟨r, hr, rfl⟩ := List.mem_map.mp hx
    simpa using (List.mem_filter.mp hr).2
theorem kept_len (g : Int → Rat) (ns : List Int) : (kept g ns).length ≤ ns.length := by
  unfold kept
  rw [List.length_map]
  exact List.length_filter_le ..
theorem kept_snoc (g : Int → Rat) (ns : List Int) (r : Int) : kept g (ns ++ [r]) = kept g ns ++ (if g r ≠ 0 then [(r, g r)] else []) := by
  unfold kept
  rw [List.filter_append, List.map_append]
  congr 1
  by_cases h : g r ≠ 0
  · rw [if_pos h, List.filter_cons, if_pos (by simpa using h)]
    rfl
  · rw [if_neg h, List.filter_cons, if_neg (by simpa using h)]
    rfl
theorem val_take {M : List (Int × Rat)} (c : Canon M) : ∀ {i : Nat} {x : Int × Rat} (s : Int), M[i]? = some x → val (M.take i) x.1 = 0 ∧ val (M.take (i + 1)) s = if s = x.1 then x.2 else val (M.take i) s := by
  induction M with
  | nil =>
    intro i x s h
    simp at h
  | cons y M ih =>
    intro i x s h
    obtain ⟨a, q⟩ := y
    cases i with
    | zero =>
      have e : (a, q) = x := Option.some.inj h
      subst e
      refine ⟨rfl, ?_⟩
      show (if a = s then q else 0) = if s = a then q else 0
      by_cases e : a = s
      · rw [if_pos e, if_pos e.symm]
      · rw [if_neg e, if_neg fun z => e z.symm]
    | succ i =>
      have h' : M[i]? = some x := h
      obtain ⟨h1, h2⟩ := ih c.tail s h'
      have lt : a < x.1 := (List.pairwise_cons.mp c.srt).1 x (List.mem_of_getElem? h')
      refine ⟨?_, ?_⟩
      · show (if a = x.1 then q else val (M.take i) x.1) = 0
        rw [if_neg (by omega), h1]
      · show (if a = s then q else val (M.take (i + 1)) s) = if s = x.1 then x.2 else (if a = s then q else val (M.take i) s)
        rw [h2]
        by_cases e : a = s
        · rw [if_pos e, if_neg (by omega), if_pos e]
        · rw [if_neg e, if_neg e]
theorem Sz.val {B : Nat} {L : List (Int × Rat)} (h0 : 0 < B) (h : ∀ x ∈ L, Sz B x.2) (r : Int) : Sz B (val L r) := by
  induction L with
  | nil => exact Sz.zero h0
  | cons y L ih =>
    obtain ⟨a, q⟩ := y
    show Sz B (if a = r then q else TCR.val L r)
    split
    · exact h _ (List.mem_cons_self ..)
    · exact ih fun x hx => h x (List.mem_cons_of_mem _ hx)
def negL (L : List (Int × Rat)) : List (Int × Rat) := L.map fun x => (x.1, -x.2)
theorem val_neg : ∀ (L : List (Int × Rat)) (r : Int), val (negL L) r = -val L r
  | [], r => by
    show (0 : Rat) = -0
    rfl
  | (a, q) :: L, r => by
    show (if a = r then -q else val (negL L) r) = -(if a = r then q else val L r)
    split
    · rfl
    · exact val_neg L r
theorem canon_neg {L : List (Int × Rat)} (c : Canon L) : Canon (negL L) := by
  refine ⟨?_, fun x hx => ?_⟩
  · unfold negL
    rw [List.pairwise_map]
    exact c.srt
  · obtain ⟨y, hy, rfl⟩ := List.mem_map.mp hx
    have z := c.nz y hy
    show -y.2 ≠ 0
    grind
theorem canon_one {r : Int} {q : Rat} (h : q ≠ 0) : Canon [(r, q)] := ⟨List.pairwise_singleton .., fun x hx => by rw [List.mem_singleton.mp hx]; exact h⟩
theorem canon_nil : Canon [] := ⟨List.Pairwise.nil, fun x hx => by cases hx⟩
end TCR
namespace TC
open PySem PySem.Spec PyProof.Rows L2 TCA
theorem iteNT {c A B : Prop} [Decidable c] (hc : ¬ c) (h : A) : if (!decide c) = true then A else B := by
  rw [decide_eq_false hc]
  exact iteT h
theorem iteD1 {c A B : Prop} [Decidable c] (hc : c) (h : A) : if decide c = true then A else B := by
  rw [decide_eq_true hc]
  exact iteT h
theorem iteD0 {c A B : Prop} [Decidable c] (hc : ¬ c) (h : B) : if decide c = true then A else B := by
  rw [decide_eq_false hc]
  exact iteF h
theorem ine {a b : Int} (h : a ≠ b) : ¬ (V.int a = V.int b) := fun e => h (V.int.inj e)
theorem same_upd {H : Hp} {p : Addr} {o : HO} (h : H p = none) : Same H (upd H p o) := fun b x e => by
  rw [upd_ne (ne_of_none e h)]
  exact e
section
variable {P : Program} {w : World} {K : PySem.W.Frag} {mg : Str → Option Value} {base : Heap} {f : Addr} {fd : FuncData}
/-! ### is_whole -/
def spWhole : Sp := fun vs H Q _ => ∃ n : Int, vs = [.int n] ∧ Q (.bl true) H
theorem scWhole : FnScope ["thing"] ["thing"] (defScope sWhole) := ⟨rfl, rfl, rfl, by decide +kernel, rfl, by decide +kernel, by decide +kernel⟩
theorem ok_whole (F : FnP K "is_whole" sWhole f fd) (gI : mg "isinstance" = none) (gi : mg "int" = none) (gb : mg "bool" = none) : FnOk P w K mg base CX0 1 f fd ["thing"] spWhole := by
  refine F.ok scWhole (fun vs H Q E h => ?_) (fun cdv A outer s H vs Q E hr h => ?_)
  · obtain ⟨n, rfl, _⟩ := h
    rfl
  · obtain ⟨n, rfl, q⟩ := h
    refine ⟨_, PSs.nox (pss_one (ps_ret (pe_and (pe_callB call_isi (by rfl) gI (by decide +kernel) (pa_cons (pv 0) (pa_cons (pe_bltn (v := .ty "int") (by rfl) gi (by decide +kernel) rfl) pa_nil)))
      (pe_one (pe_not (pe_callB call_isi (by rfl) gI (by decide +kernel) (pa_cons (pv 0) (pa_cons (pe_bltn (v := .ty "bool") (by rfl) gb (by decide +kernel) rfl) pa_nil)))))))), ?_⟩
    refine ⟨_, rfl, _, _, _, _, true, rfl, .ty "int", .base (.int n), kit_ty (by decide +kernel), true, rfl, iteT ?_⟩
    refine ⟨_, rfl, _, _, _, _, false, rfl, .ty "bool", .base (.int n), kit_ty (by decide +kernel), false, rfl, q⟩
/-! ### shared -/
def spShared : Sp := fun vs H Q _ => ∃ a b : Int, vs = [.int a, .int b] ∧ Q (.int ((Int.gcd a b : Nat) : Int)) H
theorem scShared : FnScope ["one", "other"] ["one", "other"] (defScope sShared) := ⟨rfl, rfl, rfl, by decide +kernel, rfl, by decide +kernel, by decide +kernel⟩
theorem ok_shared (F : FnP K "shared" sShared f fd) (gA : mg "abs" = none) : FnOk P w K mg base CX0 1 f fd ["one", "other"] spShared := by
  refine F.ok scShared (fun vs H Q E h => ?_) (fun cdv A outer s H vs Q E hr h => ?_)
  · obtain ⟨a, b, rfl, _⟩ := h
    rfl
  · obtain ⟨a, b, rfl, q⟩ := h
    refine ⟨_, PSs.nox (pss_cons (ps_while PassesOwn.never (pt_cmpR op_ne (pv 1) pe_int (nomark _))
        (pss_one (ps_par (i := 0) (j := 1) rfl scShared.nd rfl rfl (by decide) rfl rfl (pa_cons (pv 1) (pa_cons (pe_op op_modN (pv 0) (pv 1)) pa_nil)) (by rfl))))
      (pss_one (ps_ret (pe_callB call_abs (by rfl) gA (by decide +kernel) (pa_cons (pv 0) pa_nil))))), ?_⟩
    refine ⟨fun m σ H' => ∃ x y : Int, σ = [some (.int x), some (.int y)] ∧ H' = H ∧ Int.gcd x y = Int.gcd a b ∧ y.natAbs = m, ⟨_, a, b, rfl, rfl, rfl, rfl⟩, fun m σ H' hW => ?_⟩
    obtain ⟨x, y, rfl, rfl, eg, em⟩ := hW
    refine ⟨_, rfl, rfl, _, rfl, ?_⟩
    by_cases hy : y = 0
    · subst hy
      refine iteNS rfl ?_
      refine ⟨_, rfl, x, rfl, ?_⟩
      rw [TCM.abs_eq, ← show Int.gcd x 0 = x.natAbs from Int.gcd_zero_right x, eg]
      exact q
    · refine iteNT (ine hy) ?_
      refine ⟨fun σ' H'' => ∃ x' y' : Int, σ' = [some (.int x'), some (.int y')] ∧ H'' = H' ∧ Int.gcd x' y' = Int.gcd a b ∧ y'.natAbs < m, fun σ' H'' hN => ?_, ?_⟩
      · obtain ⟨x', y', e1, e2, e3, e4⟩ := hN
        exact ⟨_, e4, x', y', e1, e2, e3, rfl⟩
      · refine ⟨_, rfl, _, rfl, _, rfl, x, y, rfl, rfl, hy, _, _, rfl, y, x.fmod y, rfl, rfl, ?_, ?_⟩
        · rw [TCM.gcd_fmod, eg]
        · rw [← em]
          exact TCM.fmod_lt x y hy
/-! ### in_lowest -/
def spLowest : Sp := fun vs H Q _ => ∃ (t b : Int) (A : Nat), vs = [.int t, .int b] ∧ b ≠ 0 ∧ b.natAbs < 2 ^ A ∧ 0 < A ∧ A ≤ 8000 ∧ ∀ p, H p = none → Q (.ref p) (upd H p (.tup [.int (TCM.low t b).1, .int (TCM.low t b).2]))
theorem scLowest : FnScope ["top", "bottom", "common"] ["top", "bottom"] (defScope sLowest) := ⟨rfl, rfl, rfl, by decide +kernel, rfl, by decide +kernel, by decide +kernel⟩
theorem log_lt {d : Int} {n : Nat} (h : n ≤ 9000) (hn : 0 < n) (hd : d.natAbs < 2 ^ n) : d.natAbs.log2 < 9000 := Nat.lt_of_lt_of_le (PySem.Flt.log2_lt_of hn hd) h
theorem ok_lowest {fS : Addr} {fdS : FuncData} (F : FnP K "in_lowest" sLowest f fd) (GS : FnOk P w K mg base CX0 1 fS fdS ["one", "other"] spShared) (bS : L2.Binds K fdS ["one", "other"] []) (kS : PySem.W.keepIn K (.ref fS) = true) (gS : mg "shared" = some (.ref fS)) :
    FnOk P w K mg base CX0 2 f fd ["top", "bottom"] spLowest := by
  refine F.ok scLowest (fun vs H Q E h => ?_) (fun cdv A outer s H vs Q E hr h => ?_)
  · obtain ⟨a, b, _, rfl, _⟩ := h
    rfl
  · obtain ⟨t, b, Ab, rfl, hb, hz, hA0, hA8, q⟩ := h
    refine ⟨_, PSs.nox (pss_cons (ps_set (i := 2) scLowest.nd rfl (.inl rfl) (pe_call GS hr (by rfl) gS kS bS .nil pass0 (pa_cons (pv 0) (pa_cons (pv 1) pa_nil))))
      (pss_cons (ps_if (pt_cmpR op_lt (pv 1) pe_int (nomark _)) (pss_one (ps_set (i := 2) scLowest.nd rfl (.inl rfl) (pe_un un_neg (pv 2)))) pss_nil)
      (pss_one (ps_ret (pe_tup (pa_cons (pe_op op_fdivNW (pv 0) (pv 2)) (pa_cons (pe_op op_fdivNW (pv 1) (pv 2)) pa_nil))))))), ?_⟩
    refine ⟨_, rfl, _, rfl, t, b, rfl, ?_⟩
    have fin : ∀ σ : L2.St, σ = [some (.int t), some (.int b), some (.int (TCM.sgn t b))] → tRet (tTup (tCons (tOp (rI CDivNW fun i j => .int (i.fdiv j)) (tVar 0) (tVar 2)) (tCons (tOp (rI CDivNW fun i j => .int (i.fdiv j)) (tVar 1) (tVar 2)) tNil))) { nx := fun _ H' => Q .non H', rt := Q } σ H := by
      rintro σ rfl
      have hs : CDivNW t (TCM.sgn t b) := ⟨TCM.sgn_ne t b hb, log_lt (n := Ab) (by omega) hA0 (Nat.lt_of_le_of_lt (by rw [TCM.sgn_abs]; exact TCM.gcd_le t b hb) hz)⟩
      exact ⟨_, rfl, _, rfl, t, _, rfl, rfl, hs, _, rfl, _, rfl, b, _, rfl, rfl, hs, by show 2 ≤ sizeLine; decide, fun p hp => q p hp⟩
    refine ⟨_, rfl, b, 0, rfl, rfl, _, rfl, ?_⟩
    by_cases hb0 : b < 0
    · refine iteD1 hb0 ?_
      refine ⟨_, rfl, _, rfl, ?_⟩
      refine fin _ ?_
      show [some (V.int t), some (V.int b), some (V.int (-((Int.gcd t b : Nat) : Int)))] = _
      rw [show TCM.sgn t b = -((Int.gcd t b : Nat) : Int) from if_pos hb0]
    · refine iteD0 hb0 ?_
      refine fin _ ?_
      show [some (V.int t), some (V.int b), some (V.int ((Int.gcd t b : Nat) : Int))] = _
      rw [show TCM.sgn t b = ((Int.gcd t b : Nat) : Int) from if_neg hb0]
end
theorem primes_ok : ∀ p ∈ TCM.primes, 2 ≤ p ∧ p ≤ 997 := by decide
theorem pp_le {p : Int} {m : Int} (h : 2 ≤ p) (h2 : p ≤ m) : 4 ≤ p * p ∧ p * p ≤ m * m := ⟨TCM.pp4 h, Int.mul_le_mul h2 h2 (by omega) (by omega)⟩
/-- the inner loop's word: k more turns -/
def WInn (p n0 o0 n o : Int) (k : Nat) : Prop := 0 < n ∧ n ≤ 1000000 ∧ n < 4 ^ k ∧ TCM.whl k p n o = TCM.whl 10 p n0 o0
theorem WInn.start {p n o : Int} (h : 0 < n) (h2 : n ≤ 1000000) : WInn p n o n o 10 := ⟨h, h2, Int.lt_of_le_of_lt h2 (by decide), rfl⟩
theorem WInn.turn {p n0 o0 n o : Int} {k : Nat} (w : WInn p n0 o0 n o k) (hp : 2 ≤ p) (h : n % (p * p) = 0) : ∃ j, WInn p n0 o0 (n / (p * p)) (o * p) j ∧ (n / (p * p)).toNat < n.toNat := by
  obtain ⟨h0, h1, h2, h3⟩ := w
  obtain ⟨a, b, c⟩ := TCM.sq_div h0 (TCM.pp4 hp) h
  cases k with
  | zero =>
    have : n < 1 := h2
    omega
  | succ k =>
    refine ⟨k, ⟨a, by omega, ?_, ?_⟩, by omega⟩
    · have e : (4 : Int) ^ (k + 1) = 4 ^ k * 4 := Int.pow_succ ..
      omega
    · rw [← h3]
      show _ = (if n % (p * p) = 0 then TCM.whl k p (n / (p * p)) (o * p) else (n, o))
      rw [if_pos h]
theorem WInn.stop {p n0 o0 n o : Int} {k : Nat} (w : WInn p n0 o0 n o k) (h : ¬ n % (p * p) = 0) : TCM.whl 10 p n0 o0 = (n, o) := by
  obtain ⟨h0, h1, h2, h3⟩ := w
  rw [← h3]
  cases k with
  | zero => rfl
  | succ k =>
    show (if n % (p * p) = 0 then TCM.whl k p (n / (p * p)) (o * p) else (n, o)) = _
    rw [if_neg h]
theorem cmul_r {i j : Int} (h1 : -1000000 ≤ j) (h2 : j ≤ 1000000) : CMul i j := .inr ⟨by omega, by omega⟩
section
variable {P : Program} {w : World} {K : PySem.W.Frag} {mg : Str → Option Value} {base : Heap} {f : Addr} {fd : FuncData}
/-! ### squares_out -/
def spSquares : Sp := fun vs H Q _ => ∃ n : Int, vs = [.int n] ∧ 0 ≤ n ∧ n ≤ 1000000 ∧ ∀ p H', Same H H' → H p = none → H' p = some (.tup [.int (TCM.sqOut n).1, .int (TCM.sqOut n).2.1, .int (TCM.sqOut n).2.2]) → Q (.ref p) H'
theorem scSquares : FnScope ["number", "outside", "inside", "prime"] ["number"] (defScope sSquares) := ⟨rfl, rfl, rfl, by decide +kernel, rfl, by decide +kernel, by decide +kernel⟩
theorem ok_squares {aP : Addr} (F : FnP K "squares_out" sSquares f fd) (gP : mg "PRIMES" = some (.ref aP)) (hT : ∀ H, SqT K H aP (TCM.primes.map V.int)) : FnOk P w K mg base CX0 1 f fd ["number"] spSquares := by
  refine F.ok scSquares (fun vs H Q E h => ?_) (fun cdv A outer s H vs Q E hr h => ?_)
  · obtain ⟨a, rfl, _⟩ := h
    rfl
  · obtain ⟨n, rfl, h0, h1, q⟩ := h
    refine ⟨_, PSs.nox (pss_cons (ps_if (pt_cmpR op_eq (pv 0) pe_int (nomark _)) (pss_one (ps_ret (pe_tup (pa_cons pe_int (pa_cons pe_int (pa_cons pe_int pa_nil)))))) pss_nil)
      (pss_cons (ps_asg (pe_tup (pa_cons pe_int (pa_cons pe_int pa_nil))) (pg_tup rfl (pgs_cons (pg_name (i := 1) scSquares.nd rfl (.inl rfl)) (pgs_cons (pg_name (i := 2) scSquares.nd rfl (.inl rfl)) pgs_nil))))
      (pss_cons (ps_for PassesOwn.never rfl (pi_tup (pe_glob (v := .ref aP) (by rfl) gP rfl)) (pg_name (i := 3) scSquares.nd rfl (.inl rfl))
        (pss_cons (ps_if (pt_cmpR op_eq (pv 0) pe_int (nomark _)) (pss_one ps_break) pss_nil)
        (pss_cons (ps_while PassesOwn.never (pt_cmpR op_eq (pe_op op_mod (pv 0) (pe_op op_mul (pv 3) (pv 3))) pe_int (nomark _))
          (pss_cons (ps_aug (i := 0) scSquares.nd rfl (.inl rfl) (pe_op op_mul (pv 3) (pv 3)) iop_fdiv) (pss_one (ps_aug (i := 1) scSquares.nd rfl (.inl rfl) (pv 3) iop_mul))))
        (pss_one (ps_if (pt_cmpR op_eq (pe_op op_mod (pv 0) (pv 3)) pe_int (nomark _))
          (pss_cons (ps_aug (i := 0) scSquares.nd rfl (.inl rfl) (pv 3) iop_fdiv) (pss_one (ps_aug (i := 2) scSquares.nd rfl (.inl rfl) (pv 3) iop_mul))) pss_nil)))))
      (pss_one (ps_ret (pe_tup (pa_cons (pv 1) (pa_cons (pv 2) (pa_cons (pv 0) pa_nil))))))))), ?_⟩
    refine ⟨_, rfl, rfl, _, rfl, ?_⟩
    by_cases hn : n = 0
    · subst hn
      refine iteD1 rfl ?_
      exact ⟨by show 3 ≤ sizeLine; decide, fun p hp => q p _ (same_upd hp) hp upd_same⟩
    · refine iteD0 (ine hn) ?_
      have eq0 : TCM.sqOut n = TCM.sqL TCM.primes n 1 1 := if_neg hn
      refine ⟨by show 2 ≤ sizeLine; decide, fun c hc => ?_⟩
      refine ⟨c, _, rfl, SqT.of upd_same, rfl, _, _, rfl, _, _, rfl, rfl, ?_⟩
      have sm1 : Same H (upd H c (.tup [.int 1, .int 1])) := same_upd hc
      replace q : ∀ p, (upd H c (.tup [.int 1, .int 1])) p = none → Q (.ref p) (upd (upd H c (.tup [.int 1, .int 1])) p (.tup [.int (TCM.sqOut n).1, .int (TCM.sqOut n).2.1, .int (TCM.sqOut n).2.2])) := fun p hp => q p _ (sm1.trans (same_upd hp)) (sm1.free hp) upd_same
      generalize upd H c (.tup [.int 1, .int 1]) = H at q ⊢
      refine ⟨aP, rfl, ⟨_, hT H⟩, for_tup (xs := TCM.primes.map V.int) (fun j σ H' => ∃ (n' o i : Int) (pr : Option V), σ = [some (.int n'), some (.int o), some (.int i), pr] ∧ H' = H ∧ 0 < n' ∧ n' ≤ 1000000 ∧ TCM.sqL (TCM.primes.drop j) n' o i = TCM.sqOut n)
        ⟨n, 1, 1, none, rfl, rfl, by omega, h1, eq0.symm⟩ (fun j σ H' _ hP => ?_) (fun j x σ H' hx hP => ?_) (fun σ H' hP => ?_)⟩
      · obtain ⟨_, _, _, _, _, rfl, _⟩ := hP
        exact hT _
      · obtain ⟨n', o, i, pr, rfl, rfl, g0, g1, ge⟩ := hP
        rw [List.getElem?_map] at hx
        obtain ⟨p, hp, rfl⟩ : ∃ p, TCM.primes[j]? = some p ∧ V.int p = x := by
          cases e : TCM.primes[j]? with
          | none =>
            rw [e] at hx
            cases hx
          | some p =>
            rw [e] at hx
            exact ⟨p, rfl, Option.some.inj hx⟩
        obtain ⟨p2, p9⟩ := primes_ok p (List.mem_of_getElem? hp)
        have hdrop : TCM.primes.drop j = p :: TCM.primes.drop (j + 1) := by
          obtain ⟨hl, e⟩ := List.getElem?_eq_some_iff.mp hp
          rw [List.drop_eq_getElem_cons hl, e]
        rw [hdrop] at ge
        obtain ⟨pp1, pp2⟩ := pp_le p2 p9
        have cd : CDiv n' (p * p) := ⟨by omega, by omega⟩
        refine ⟨_, rfl, rfl, _, rfl, ?_⟩
        by_cases hn1 : n' = 1
        · subst hn1
          refine iteD1 rfl ?_
          have e2 : (o, i, (1 : Int)) = TCM.sqOut n := by
            rw [← ge]
            show _ = (if (1 : Int) = 1 then (o, i, (1 : Int)) else _)
            rw [if_pos rfl]
          rw [← e2] at q
          exact ⟨_, rfl, _, rfl, _, rfl, by show 3 ≤ sizeLine; decide, fun p hp => q p hp⟩
        · refine iteD0 (ine hn1) ?_
          refine ⟨fun m σ H'' => ∃ (n2 o2 : Int) (k : Nat), σ = [some (.int n2), some (.int o2), some (.int i), some (.int p)] ∧ H'' = H' ∧ WInn p n' o n2 o2 k ∧ n2.toNat = m,
            ⟨_, n', o, 10, rfl, rfl, WInn.start g0 g1, rfl⟩, fun m σ H'' hW => ?_⟩
          obtain ⟨n2, o2, k, rfl, rfl, hw, hm⟩ := hW
          refine ⟨_, rfl, _, rfl, _, rfl, p, p, rfl, rfl, cmul_r (by omega) (by omega), n2, p * p, rfl, rfl, by show 0 < p * p; omega, rfl, _, rfl, ?_⟩
          by_cases hz : n2 % (p * p) = 0
          · refine iteD1 (congrArg V.int hz) ?_
            obtain ⟨k2, hw2, hlt⟩ := hw.turn p2 hz
            refine ⟨fun σ' H3 => σ' = [some (.int (n2 / (p * p))), some (.int (o2 * p)), some (.int i), some (.int p)] ∧ H3 = H'', fun σ' H3 hN => ?_, ?_⟩
            · obtain ⟨rfl, rfl⟩ := hN
              exact ⟨_, hm ▸ hlt, _, _, k2, rfl, rfl, hw2, rfl⟩
            · exact ⟨_, rfl, _, rfl, _, rfl, p, p, rfl, rfl, cmul_r (by omega) (by omega), n2, p * p, rfl, rfl, ⟨by omega, by omega⟩, _, rfl, _, rfl, o2, p, rfl, rfl, cmul_r (by omega) (by omega), rfl, rfl⟩
          · refine iteD0 (ine hz) ?_
            have ew := hw.stop hz
            obtain ⟨w0, w1, _, _⟩ := hw
            have ge2 : (if n2 % p = 0 then TCM.sqL (TCM.primes.drop (j + 1)) (n2 / p) o2 (i * p) else TCM.sqL (TCM.primes.drop (j + 1)) n2 o2 i) = TCM.sqOut n := by
              rw [← ge]
              show _ = (if n' = 1 then (o, i, n') else if (TCM.whl 10 p n' o).1 % p = 0 then TCM.sqL (TCM.primes.drop (j + 1)) ((TCM.whl 10 p n' o).1 / p) (TCM.whl 10 p n' o).2 (i * p) else TCM.sqL (TCM.primes.drop (j + 1)) (TCM.whl 10 p n' o).1 (TCM.whl 10 p n' o).2 i)
              rw [if_neg hn1, ew]
            refine ⟨_, rfl, _, rfl, n2, p, rfl, rfl, by show 0 < p; omega, rfl, _, rfl, ?_⟩
            by_cases hz2 : n2 % p = 0
            · refine iteD1 (congrArg V.int hz2) ?_
              rw [if_pos hz2] at ge2
              have e3 := Int.mul_ediv_add_emod n2 p
              have l1 : 0 < n2 / p := by
                rcases Int.lt_or_le 0 (n2 / p) with z | z
                · exact z
                · have := Int.mul_le_mul_of_nonneg_left z (show 0 ≤ p by omega)
                  rw [Int.mul_zero] at this
                  omega
              have l2 : n2 / p ≤ 1000000 := Int.le_trans (Int.ediv_le_self _ (by omega)) w1
              exact ⟨_, rfl, _, rfl, n2, p, rfl, rfl, ⟨by omega, by omega⟩, _, rfl, _, rfl, i, p, rfl, rfl, cmul_r (by omega) (by omega), n2 / p, o2, i * p, some (.int p), rfl, rfl, l1, l2, ge2⟩
            · refine iteD0 (ine hz2) ?_
              rw [if_neg hz2] at ge2
              exact ⟨n2, o2, i, some (.int p), rfl, rfl, w0, w1, ge2⟩
      · obtain ⟨n', o, i, pr, rfl, rfl, g0, g1, ge⟩ := hP
        rw [List.length_map, List.drop_length] at ge
        have e2 : (o, i, n') = TCM.sqOut n := ge
        rw [← e2] at q
        exact ⟨_, rfl, _, rfl, _, rfl, by show 3 ≤ sizeLine; decide, fun p hp => q p hp⟩
/-! ### _law_low -/
def spLowL : Sp := fun vs H Q _ => ∃ (t b : Int) (A : Nat), vs = [.int t, .int b] ∧ b ≠ 0 ∧ b.natAbs < 2 ^ A ∧ 0 < A ∧ A ≤ 8000 ∧ ∀ p, H p = none → Q (.ref p) (upd H p (.tup [.int (TCM.lowL t b).1, .int (TCM.lowL t b).2]))
theorem scLowL : FnScope ["_law_up", "_law_under", "_law_one", "_law_other"] ["_law_up", "_law_under"] (defScope sLow) := ⟨rfl, rfl, rfl, by decide +kernel, rfl, by decide +kernel, by decide +kernel⟩
theorem ok_lowL (F : FnP K "_law_low" sLow f fd) (gA : mg "abs" = none) : FnOk P w K mg base CX0 1 f fd ["_law_up", "_law_under"] spLowL := by
  refine F.ok scLowL (fun vs H Q E h => ?_) (fun cdv A outer s H vs Q E hr h => ?_)
  · obtain ⟨a, b, _, rfl, _⟩ := h
    rfl
  · obtain ⟨t, b, Ab, rfl, hb, hz, hA0, hA8, q⟩ := h
    refine ⟨_, PSs.nox (pss_cons (ps_par (i := 2) (j := 3) rfl scLowL.nd rfl rfl (by decide) rfl rfl (pa_cons (pe_callB call_abs (by rfl) gA (by decide +kernel) (pa_cons (pv 0) pa_nil)) (pa_cons (pe_callB call_abs (by rfl) gA (by decide +kernel) (pa_cons (pv 1) pa_nil)) pa_nil)) (by rfl))
      (pss_cons (ps_while PassesOwn.never (pt_cmpR op_gt (pv 3) pe_int (nomark _))
        (pss_one (ps_par (i := 2) (j := 3) rfl scLowL.nd rfl rfl (by decide) rfl rfl (pa_cons (pv 3) (pa_cons (pe_op op_modN (pv 2) (pv 3)) pa_nil)) (by rfl))))
      (pss_one (ps_ret (pe_ifExp (pt_cmpR op_gt (pv 1) pe_int (nomark _))
        (pe_tup (pa_cons (pe_op op_fdivNW (pv 0) (pv 2)) (pa_cons (pe_op op_fdivNW (pv 1) (pv 2)) pa_nil)))
        (pe_tup (pa_cons (pe_op op_fdivNW (pe_un un_neg (pv 0)) (pv 2)) (pa_cons (pe_op op_fdivNW (pe_un un_neg (pv 1)) (pv 2)) pa_nil)))))))), ?_⟩
    refine ⟨_, rfl, t, rfl, _, rfl, b, rfl, _, _, rfl, ?_⟩
    refine ⟨fun m σ H' => ∃ x y : Int, σ = [some (.int t), some (.int b), some (.int x), some (.int y)] ∧ H' = H ∧ 0 ≤ x ∧ 0 ≤ y ∧ Int.gcd x y = Int.gcd t b ∧ y.natAbs = m,
      ⟨_, ((t.natAbs : Nat) : Int), ((b.natAbs : Nat) : Int), ?_, rfl, by omega, by omega, rfl, rfl⟩, fun m σ H' hW => ?_⟩
    · show [some (V.int t), some (V.int b), some (V.int (if t < 0 then -t else t)), some (V.int (if b < 0 then -b else b))] = _
      rw [TCM.abs_eq, TCM.abs_eq]
    · obtain ⟨x, y, rfl, rfl, x0, y0, eg, em⟩ := hW
      refine ⟨_, rfl, y, 0, rfl, rfl, _, rfl, ?_⟩
      by_cases hy : y > 0
      · refine iteD1 hy ?_
        refine ⟨fun σ' H'' => ∃ x' y' : Int, σ' = [some (.int t), some (.int b), some (.int x'), some (.int y')] ∧ H'' = H' ∧ 0 ≤ x' ∧ 0 ≤ y' ∧ Int.gcd x' y' = Int.gcd t b ∧ y'.natAbs < m, fun σ' H'' hN => ?_, ?_⟩
        · obtain ⟨x', y', e1, e2, e3, e4, e5, e6⟩ := hN
          exact ⟨_, e6, x', y', e1, e2, e3, e4, e5, rfl⟩
        · refine ⟨_, rfl, _, rfl, _, rfl, x, y, rfl, rfl, by show y ≠ 0; omega, _, _, rfl, y, x.fmod y, rfl, rfl, y0, Int.fmod_nonneg_of_pos x hy, ?_, ?_⟩
          · rw [TCM.gcd_fmod, eg]
          · rw [← em]
            exact TCM.fmod_lt x y (by omega)
      · refine iteD0 hy ?_
        have ey : y = 0 := by omega
        subst ey
        have ex : x = ((Int.gcd t b : Nat) : Int) := by
          rw [← eg, show Int.gcd x 0 = x.natAbs from Int.gcd_zero_right x]
          omega
        subst ex
        have gp := TCM.gcd_pos t b hb
        have hs : ∀ z, CDivNW z ((Int.gcd t b : Nat) : Int) := fun z => ⟨by omega, log_lt (n := Ab) (by omega) hA0 (Nat.lt_of_le_of_lt (by
          have := TCM.gcd_le t b hb
          omega) hz)⟩
        refine ⟨_, rfl, b, 0, rfl, rfl, _, rfl, ?_⟩
        by_cases hb0 : b > 0
        · refine iteD1 hb0 ?_
          have e : TCM.lowL t b = (t.fdiv ((Int.gcd t b : Nat) : Int), b.fdiv ((Int.gcd t b : Nat) : Int)) := if_pos hb0
          rw [e] at q
          exact ⟨_, rfl, _, rfl, t, _, rfl, rfl, hs _, _, rfl, _, rfl, b, _, rfl, rfl, hs _, by show 2 ≤ sizeLine; decide, fun p hp => q p hp⟩
        · refine iteD0 hb0 ?_
          have e : TCM.lowL t b = ((-t).fdiv ((Int.gcd t b : Nat) : Int), (-b).fdiv ((Int.gcd t b : Nat) : Int)) := if_neg hb0
          rw [e] at q
          exact ⟨_, rfl, t, rfl, _, rfl, -t, _, rfl, rfl, hs _, _, rfl, b, rfl, _, rfl, -b, _, rfl, rfl, hs _, by show 2 ≤ sizeLine; decide, fun p hp => q p hp⟩
/-! ### _law_pen -/
def spPen (K : PySem.W.Frag) : Sp := fun vs H Q _ => ∃ (a : Addr) (ns : List Int), vs = [.ref a] ∧ SqL K H a (ns.map V.int) ∧ ns.length ≤ 63 ∧
  ∀ (p c : Addr) (ms : List Int) H', Same H H' → H p = none → H' p = some (.lst [.ref c, .int 0, .int 0]) → H' c = some (.lst (ms.map V.int)) → p ≠ c → Q (.ref p) H'
theorem scPen : FnScope ["_law_script"] ["_law_script"] (defScope sPen) := ⟨rfl, rfl, rfl, by decide +kernel, rfl, by decide +kernel, by decide +kernel⟩
theorem ok_pen (F : FnP K "_law_pen" sPen f fd) (gl : mg "list" = none) : FnOk P w K mg base CX0 1 f fd ["_law_script"] (spPen K) := by
  refine F.ok scPen (fun vs H Q E h => ?_) (fun cdv A outer s H vs Q E hr h => ?_)
  · obtain ⟨a, ns, rfl, _⟩ := h
    rfl
  · obtain ⟨a, ns, rfl, hS, hn, q⟩ := h
    refine ⟨_, PSs.nox (pss_one (ps_ret (pe_lst (pa_cons (pe_callTy call_list_of (by rfl) gl (by decide +kernel) (pa_cons (pe_slice sl_list (pv 0) po_none (po_some pe_int)) pa_nil)) (pa_cons pe_int (pa_cons pe_int pa_nil)))))), ?_⟩
    refine ⟨_, rfl, _, rfl, a, _, rfl, hS, fun c1 hc1 => ?_⟩
    have sm1 := same_upd (o := .lst (cutV (ns.map V.int) none (some 63))) hc1
    refine ⟨c1, _, rfl, .inl (SqL.of upd_same), fun c hc => ?_⟩
    have sm2 := same_upd (o := .lst (cutV (ns.map V.int) none (some 63))) hc
    refine ⟨by show 3 ≤ sizeLine; decide, fun p hp => ?_⟩
    have sm3 := same_upd (o := .lst [.ref c, .int 0, .int 0]) hp
    have ec : cutV (ns.map V.int) none (some 63) = ((ns.drop (HT.sIx (ns.map V.int).length 0 none)).take (HT.sIx (ns.map V.int).length (ns.map V.int).length (some 63) - HT.sIx (ns.map V.int).length 0 none)).map V.int := by
      rw [List.map_take, List.map_drop]
      rfl
    refine q p c ((ns.drop (HT.sIx (ns.map V.int).length 0 none)).take (HT.sIx (ns.map V.int).length (ns.map V.int).length (some 63) - HT.sIx (ns.map V.int).length 0 none)) _ ((sm1.trans sm2).trans sm3) ((sm1.trans sm2).free hp) upd_same ?_ ?_
    · rw [← ec]
      exact sm3 _ _ upd_same
    · exact fun e => by
        rw [e, upd_same] at hp
        cases hp
/-! ### _law_draw -/
/-- the pen: its cells at c, where it stands, what is left of a great cell -/
def PenAt (H : Hp) (p c : Addr) (ms : List Int) (n : Int) : Prop := ∃ left : Int, H p = some (.lst [.ref c, .int n, .int left]) ∧ H c = some (.lst (ms.map V.int)) ∧ p ≠ c
/-- all but the pen is as it was -/
def SameBut (p : Addr) (H H' : Hp) : Prop := ∀ b o, b ≠ p → H b = some o → H' b = some o
def spDraw : Sp := fun vs H Q _ => ∃ (p c : Addr) (ms : List Int) (n m : Int), vs = [.ref p, .int m] ∧ PenAt H p c ms n ∧ 0 ≤ n ∧ n ≤ 1000000 ∧ 0 < m ∧ m < 2 ^ 1000 ∧
  ∀ (d n' : Int) H', 0 ≤ d → d < m → n ≤ n' → n' ≤ n + 1 → PenAt H' p c ms n' → SameBut p H H' → Q (.int d) H'
theorem scDraw : FnScope ["_law_pen_here", "_law_many", "_law_found", "_law_at", "_law_cell", "_law_number"] ["_law_pen_here", "_law_many"] (defScope sDraw) := ⟨rfl, rfl, rfl, by decide +kernel, rfl, by decide +kernel, by decide +kernel⟩
theorem but_upd {p : Addr} {H H1 : Hp} {o : HO} (s : SameBut p H H1) : SameBut p H (upd H1 p o) := fun b x hb e => by
  rw [upd_ne hb]
  exact s b x hb e
set_option exponentiation.threshold 2000 in
theorem wdiv {i m : Int} (h : 0 < m) (h2 : m < 2 ^ 1000) : CDivW i m := ⟨h, Nat.lt_of_lt_of_le (PySem.Flt.log2_lt_of (show 0 < 1000 by decide) (show m.natAbs < 2 ^ 1000 by omega)) (by decide)⟩
theorem ok_draw (F : FnP K "_law_draw" sDraw f fd) (gl : mg "len" = none) : FnOk P w K mg base CX0 1 f fd ["_law_pen_here", "_law_many"] spDraw := by
  refine F.ok scDraw (fun vs H Q E h => ?_) (fun cdv A outer s H vs Q E hr h => ?_)
  · obtain ⟨p, c, ms, n, m, rfl, _⟩ := h
    rfl
  · obtain ⟨p, c, ms, n, m, rfl, ⟨left, hp, hc, hpc⟩, n0, n1, m0, m1, q⟩ := h
    refine ⟨_, PSs.nox (pss_cons (ps_if (pt_cmpR op_gt (pe_ix ix_list (pv 0) pe_int (fun _ _ => rfl)) pe_int (nomark _))
        (pss_cons (ps_set (i := 2) scDraw.nd rfl (.inl rfl) (pe_op op_mod (pe_ix ix_list (pv 0) pe_int (fun _ _ => rfl)) (pv 1)))
        (pss_cons (ps_asg (pe_op op_fdivW (pe_ix ix_list (pv 0) pe_int (fun _ _ => rfl)) (pv 1)) (pg_sub (pv 0) pe_int set_list))
        (pss_one (ps_ret (pv 2))))) pss_nil)
      (pss_cons (ps_set (i := 3) scDraw.nd rfl (.inl rfl) (pe_ix ix_list (pv 0) pe_int (fun _ _ => rfl)))
      (pss_cons (ps_asg (pe_op op_add (pv 3) pe_int) (pg_sub (pv 0) pe_int set_list))
      (pss_cons (ps_set (i := 4) scDraw.nd rfl (.inl rfl) pe_int)
      (C8.pss_cut (ps_if (pt_cmpR op_gt (pe_callB call_len_seq (by rfl) gl PySem.boot_len (pa_cons (pe_ix ix_list (pv 0) pe_int (fun _ _ => rfl)) pa_nil)) pe_int (nomark _))
        (pss_one (ps_set (i := 4) scDraw.nd rfl (.inl rfl) (pe_ix ix_list (pe_ix ix_list (pv 0) pe_int (fun _ _ => rfl)) (pe_op op_mod (pv 3) (pe_callB call_len_seq (by rfl) gl PySem.boot_len (pa_cons (pe_ix ix_list (pv 0) pe_int (fun _ _ => rfl)) pa_nil))) (fun _ _ => rfl)))) pss_nil)
      (C8.pss_cut (ps_if (PW.pt (pw_and (pt_cmpR op_lt (pv 3) (pe_callB call_len_seq (by rfl) gl PySem.boot_len (pa_cons (pe_ix ix_list (pv 0) pe_int (fun _ _ => rfl)) pa_nil)) (nomark _)) (pw_and1 (pt_cmpR op_ge (pv 4) (pe_op op_pow pe_int pe_int) (nomark _)))))
        (pss_cons (ps_asg (pe_op op_fdivW (pv 4) (pv 1)) (pg_sub (pv 0) pe_int set_list)) (pss_one (ps_ret (pe_op op_mod (pv 4) (pv 1))))) pss_nil)
      (pss_cons (ps_set (i := 5) scDraw.nd rfl (.inl rfl) (pe_op op_mod (pe_op op_mul (pe_op op_add (pe_op op_mod (pv 4) pe_int) pe_int) (pe_op op_add (pe_op op_add (pe_op op_mul (pv 3) (pv 3)) (pe_op op_mul pe_int (pv 3))) pe_int)) pe_int))
      (pss_cons (ps_set (i := 5) scDraw.nd rfl (.inl rfl) (pe_op op_mod (pe_op op_mul (pe_op op_mod (pe_op op_add (pe_op op_pow (pv 5) pe_int) (pe_op op_mul pe_int (pv 3))) pe_int) pe_int) pe_int))
      (C8.pss_cut (ps_if (pt_cmpR op_gt (pv 1) (pe_op op_pow pe_int pe_int) (nomark _))
        (pss_one (ps_set (i := 5) scDraw.nd rfl (.inl rfl) (pe_op op_add (pe_op op_mul (pv 5) pe_int) (pe_op op_mod (pe_op op_mul (pe_op op_mod (pv 5) pe_int) pe_int) pe_int)))) pss_nil)
      (pss_one (ps_ret (pe_op op_mod (pe_op op_fdiv (pv 5) pe_int) (pv 1))))))))))))), ?_⟩
    have i2 : atI ([.ref c, .int n, .int left] : List V) 2 = some (.int left) := atI_nat (j := 2) rfl
    have i1 : atI ([.ref c, .int n, .int left] : List V) 1 = some (.int n) := atI_nat (j := 1) rfl
    refine ⟨_, rfl, p, _, 2, _, rfl, rfl, SqL.of hp, i2, left, 0, rfl, rfl, _, rfl, ?_⟩
    by_cases hl : 0 < left
    · refine iteD1 hl ?_
      refine ⟨_, rfl, p, _, 2, _, rfl, rfl, SqL.of hp, i2, _, rfl, left, m, rfl, rfl, m0, ?_⟩
      refine ⟨_, rfl, p, _, 2, _, rfl, rfl, SqL.of hp, i2, _, rfl, left, m, rfl, rfl, wdiv m0 m1, ?_⟩
      refine ⟨_, rfl, p, _, 2, 2, rfl, rfl, hp, rfl, ?_⟩
      refine ⟨_, rfl, ?_⟩
      exact q _ n _ (Int.emod_nonneg _ (by omega)) (Int.emod_lt_of_pos _ m0) (by omega) (by omega) ⟨left / m, upd_same, by rw [upd_ne hpc.symm]; exact hc, hpc⟩ (but_upd fun _ _ _ e => e)
    · refine iteD0 hl ?_
      refine ⟨_, rfl, p, _, 1, _, rfl, rfl, SqL.of hp, i1, ?_⟩
      refine ⟨_, rfl, n, 1, rfl, rfl, _, rfl, p, _, 1, 1, rfl, rfl, hp, rfl, ?_⟩
      have hp2u : (upd H p (.lst [.ref c, .int (n + 1), .int left])) p = some (.lst [.ref c, .int (n + 1), .int left]) := upd_same
      have hc2u : (upd H p (.lst [.ref c, .int (n + 1), .int left])) c = some (.lst (ms.map V.int)) := by
        rw [upd_ne hpc.symm]
        exact hc
      obtain ⟨H2, eH2⟩ : ∃ H2 : Hp, upd H p (.lst [.ref c, .int (n + 1), .int left]) = H2 := ⟨_, rfl⟩
      have hp2 : H2 p = some (.lst [.ref c, .int (n + 1), .int left]) := by
        rw [← eH2]
        exact hp2u
      have hc2 : H2 c = some (.lst (ms.map V.int)) := by
        rw [← eH2]
        exact hc2u
      have sb : SameBut p H H2 := by
        rw [← eH2]
        exact but_upd fun _ _ _ e => e
      have j0 : atI ([.ref c, .int (n + 1), .int left] : List V) 0 = some (.ref c) := atI_nat (j := 0) rfl
      refine ⟨fun σ H' => ∃ cell : Int, σ = [some (.ref p), some (.int m), none, some (.int n), some (.int cell), none] ∧ H' = H2, ?_, fun σ' H' hM => ?_⟩
      · refine ⟨_, rfl, p, _, 0, _, rfl, rfl, SqL.of hp2u, j0, c, _, rfl, .inl (SqL.of hc2u), _, 0, rfl, rfl, _, rfl, ite2 (fun e => ?_) (fun e => ?_)⟩
        · have e2 : 0 < ((ms.map V.int).length : Int) := of_decide_eq_true e
          rw [List.length_map] at e2
          have hk0 := Int.emod_nonneg n (show (ms.length : Int) ≠ 0 by omega)
          have hk1 := Int.emod_lt_of_pos n e2
          have hk : (n % (ms.length : Int)).toNat < ms.length := by omega
          refine ⟨_, rfl, p, _, 0, _, rfl, rfl, SqL.of hp2u, j0, _, rfl, _, rfl, p, _, 0, _, rfl, rfl, SqL.of hp2u, j0, c, _, rfl, .inl (SqL.of hc2u), n, _, rfl, rfl, by
            show 0 < ((ms.map V.int).length : Int)
            rw [List.length_map]
            exact e2, c, _, _, .int (ms[(n % (ms.length : Int)).toNat]), rfl, rfl, SqL.of hc2u, ?_, ?_⟩
          · rw [List.length_map]
            exact at_of (j := (n % (ms.length : Int)).toNat) (by omega) (by rw [List.getElem?_map, List.getElem?_eq_getElem hk]; rfl)
          · exact ⟨_, rfl, eH2⟩
        · exact ⟨7, rfl, eH2⟩
      · obtain ⟨cell, rfl, eM⟩ := hM
        replace eM := eM.symm
        subst eM
        refine ⟨fun σ H' => σ = [some (.ref p), some (.int m), none, some (.int n), some (.int cell), none] ∧ H' = H2, ?_, fun σ' H' hM => ?_⟩
        · refine ⟨_, rfl, _, rfl, p, _, 0, _, rfl, rfl, SqL.of hp2, j0, c, _, rfl, .inl (SqL.of hc2), n, _, rfl, rfl, _, rfl, ite2 (fun _ => ?_) (fun _ => iteF ⟨rfl, rfl⟩)⟩
          refine ⟨_, rfl, 10, 18, rfl, rfl, ⟨by decide, by decide, by decide⟩, cell, _, rfl, rfl, _, rfl, ite2 (fun _ => ?_) (fun _ => ⟨rfl, rfl⟩)⟩
          refine ⟨_, rfl, _, rfl, cell, m, rfl, rfl, wdiv m0 m1, _, rfl, p, _, 2, 2, rfl, rfl, hp2, rfl, ?_⟩
          refine ⟨_, rfl, _, rfl, cell, m, rfl, rfl, m0, ?_⟩
          exact q _ (n + 1) _ (Int.emod_nonneg _ (by omega)) (Int.emod_lt_of_pos _ m0) (by omega) (by omega) ⟨cell / m, upd_same, by rw [upd_ne hpc.symm]; exact hc2, hpc⟩ (but_upd sb)
        · obtain ⟨rfl, eM⟩ := hM
          replace eM := eM.symm
          subst eM
          have c0 := Int.emod_nonneg cell (show (2147483629 : Int) ≠ 0 by decide)
          have c1 := Int.emod_lt_of_pos cell (show (0 : Int) < 2147483629 by decide)
          refine ⟨_, rfl, cell, 2147483629, rfl, rfl, (show (0 : Int) < 2147483629 by decide), _, 11, rfl, rfl, _, rfl, _, rfl, n, n, rfl, rfl, .inl ⟨by omega, by omega⟩, _, rfl, 5, n, rfl, rfl, .inl ⟨by decide, by decide⟩, _, _, rfl, rfl, _, 3, rfl, rfl, _, _, rfl, rfl, .inl ⟨by omega, by omega⟩, _, 2147483647, rfl, rfl, (show (0 : Int) < 2147483647 by decide), ?_⟩
          have hz2 : ∀ z : Int, (z % 2147483647).natAbs < 2 ^ 64 := fun z => by
            have d0 := Int.emod_nonneg z (show (2147483647 : Int) ≠ 0 by decide)
            have d1 := Int.emod_lt_of_pos z (show (0 : Int) < 2147483647 by decide)
            omega
          refine ⟨_, rfl, _, 3, rfl, rfl, ⟨by decide, by decide, hz2 _⟩, _, rfl, 69621, n, rfl, rfl, .inl ⟨by decide, by decide⟩, _, _, rfl, rfl, _, 2147483587, rfl, rfl, (show (0 : Int) < 2147483587 by decide), _, 40692, rfl, rfl, .inr ⟨by decide, by decide⟩, _, 2147483399, rfl, rfl, (show (0 : Int) < 2147483399 by decide), ?_⟩
          refine ⟨fun σ H' => ∃ z : Int, σ = [some (.ref p), some (.int m), none, some (.int n), some (.int cell), some (.int z)] ∧ H' = H2, ?_, fun σ' H' hM => ?_⟩
          · refine ⟨_, rfl, 10, 6, rfl, rfl, ⟨by decide, by decide, by decide⟩, m, _, rfl, rfl, _, rfl, ite2 (fun _ => ?_) (fun _ => ⟨_, rfl, rfl⟩)⟩
            exact ⟨_, rfl, _, 2147483629, rfl, rfl, .inr ⟨by decide, by decide⟩, _, rfl, _, 1000003, rfl, rfl, (show (0 : Int) < 1000003 by decide), _, 48271, rfl, rfl, .inr ⟨by decide, by decide⟩, _, 2147483587, rfl, rfl, (show (0 : Int) < 2147483587 by decide), _, _, rfl, rfl, _, rfl, rfl⟩
          · obtain ⟨z, rfl, eM⟩ := hM
            replace eM := eM.symm
            subst eM
            refine ⟨_, rfl, z, 64, rfl, rfl, ⟨by decide, by decide⟩, _, rfl, _, m, rfl, rfl, m0, ?_⟩
            exact q _ (n + 1) _ (Int.emod_nonneg _ (by omega)) (Int.emod_lt_of_pos _ m0) (by omega) (by omega) ⟨left, hp2, hc2, hpc⟩ sb
end
end TC
/-! name = {k: v for ..}, the name a local: the dict is stored while the comprehension's block still stands. -/
namespace TCA
open PySem PySem.Spec PyProof.Rows L2
section
variable {X : Cx}
theorem sw_dict {kx vx : Expr} {gs : List Comprehension} {scope : Scope} {pos py : Pos} {y : Str} {l : Nat} {env : Env} (hk : env.scope.kind = .function) (hy : env.scope.names.lookup y = some .local) (hl : (py.line == pos.line) = true)
    (ha : (scope.names.any fun (n, k) => n == y && (k == .local || k == .cell)) = false) : swapsWith (.DictComp kx vx gs scope pos) (some (.Name y py)) l env = pure true := by
  have e1 : env.kindOf y = some .local := hy
  have e2 : env.blockKind = .function := by
    unfold Env.blockKind
    rw [hk]
    rfl
  unfold swapsWith
  simp only [e2, e1, ha, Expr.pos, hl]
  rfl
theorem ps_setDc {i : Nat} {y : Str} {py : Pos} {kx vx tg iter : Expr} {ifs : List Expr} {scope : Scope} {own : List (Str × Nat)} {pos spos : Pos} {wi : TI} {g : TG} {tt : TT} {tk tv : TE} (hc : X.calm = true) (hN : X.N.Nodup) (hy : X.N[i]? = some y) (hyl : X.env.scope.names.lookup y = some .local)
    (hsw : swapsWith (.DictComp kx vx [⟨tg, iter, ifs, 0⟩] scope pos) (some (.Name y py)) spos.line X.env = pure true) (hi : PI X tg iter wi) (ok : BlkOk X.N X.env.scope scope own)
    (hg : ∀ (s : Shared) (H : Hp) (C : Addr) (cl : List (Str × Addr)) (fp : List Addr), PG (X.blk s H scope (compEnvC scope cl C X.env) fp) tg g)
    (ht : ∀ (s : Shared) (H : Hp) (C : Addr) (cl : List (Str × Addr)) (fp : List Addr), PTs (X.blk s H scope (compEnvC scope cl C X.env) fp) ifs tt)
    (hk : ∀ (s : Shared) (H : Hp) (C : Addr) (cl : List (Str × Addr)) (fp : List Addr), PE (X.blk s H scope (compEnvC scope cl C X.env) fp) kx tk)
    (hv : ∀ (s : Shared) (H : Hp) (C : Addr) (cl : List (Str × Addr)) (fp : List Addr), PE (X.blk s H scope (compEnvC scope cl C X.env) fp) vx tv)
    (hs : ∀ x, foldedSetIterable iter X.env x = pure x := by intro _; rfl) :
    PS X (.Assign [.Name y py] (.DictComp kx vx [⟨tg, iter, ifs, 0⟩] scope pos) spos) (tAsg (tDc wi g tt tk tv (own.map (·.2))) (gName i)) := by
  refine ⟨fun pins s σ H D I h => ?_⟩
  rw [exec_Assign_Name_used _ _ _ _ hsw]
  refine wpAny_bind (wpAny_standAt (wpAny_bind ?_))
  show wpAny _ X.A (do let _ ← comprehension (.DictComp kx vx [⟨tg, iter, ifs, 0⟩] scope pos) scope X.env (firstIterPos [⟨tg, iter, ifs, 0⟩] pos) newDict false (eval iter X.env) (some (assign (.Name y py) X.env))) _ _ s
  have h' : tDc wi g tt tk tv (own.map (·.2)) σ H (fun x H1 => gName i x σ H1 D.nx) := h
  have core := dc_core (Qf := fun _ s' => SP X pins D .next s') (pos := pos) (pos' := firstIterPos [⟨tg, iter, ifs, 0⟩] pos) (use := some (assign (.Name y py) X.env)) hc hN I hi ok hg ht hk hv hs h' fun d C s' m H' I' q hn fp => by
    show wpAny _ _ (assign (.Name y py) X.env (.ref d)) _ _ _
    refine wpAny_assign_Name (store_ok2 (v := V.ref d) I' hN hy (.inl hyl) rfl (fun s2 I2 ⟨a, sb, ha⟩ => ?_) (.inr hyl))
    obtain ⟨f0, f1, f2, f3, f4, f5⟩ := fp
    have hCa : C ≠ a := by
      rcases ha with z | z
      · rw [z]
        exact f1
      · exact fun e => f4 y a z e.symm
    exact ⟨m, hn.sameBut sb hCa, fun h3 sb3 => ⟨_, H', I2.turned (t' := s2.toks) (fun b o hb e => (sb3.2 b hb).trans e) f0 f1 f3 f4 f5, q⟩⟩
  exact wpAny_bind (thn core fun _ s' hq => wpAny_pure (wpAny_pure hq))
/-! a for over a list or a tuple, whichever it is -/
theorem seqL_at {K : PySem.W.Frag} {H H' : Hp} {a : Addr} {xs : List V} (e : ∀ u, H a = some u → H' a = some u) (h : SqL K H a xs) : SqL K H' a xs := by
  rcases h with (h | ⟨o, h⟩) | h
  · exact .inl (.inl (e _ h))
  · exact .inl (.inr ⟨o, e _ h⟩)
  · exact .inr h
theorem seqT_at {K : PySem.W.Frag} {H H' : Hp} {a : Addr} {xs : List V} (e : ∀ u, H a = some u → H' a = some u) (h : SqT K H a xs) : SqT K H' a xs := by
  rcases h with (h | ⟨o, h⟩) | h
  · exact .inl (.inl (e _ h))
  · exact .inl (.inr ⟨o, e _ h⟩)
  · exact .inr h
def iSeq (K : PySem.W.Frag) (tl : TE) : TI := fun σ H R => tl σ H fun x H1 => ∃ a xs, x = .ref a ∧ (SqL K H1 a xs ∨ SqT K H1 a xs) ∧ ∀ (J : It) (G : Hp → Prop), (∀ H', (∀ u, H1 a = some u → H' a = some u) → G H') → Walk J xs.length G (YAt xs) → R J H1
theorem pi_seq {tg l : Expr} {tl : TE} (hl : PE X l tl) : PI X tg l (iSeq X.K tl) := by
  refine ⟨fun pins s σ H R I h => thn (hl.run pins s σ H _ I h) fun v s1 ⟨x, H1, I1, r1, q1⟩ => ?_⟩
  obtain ⟨a, xs, ex, hq, q⟩ := q1
  subst ex
  cases r1
  have own : ∀ b ∈ [s1.heap.objs.size], FpOk X pins H1 b := fun b hb => by
    rw [List.mem_singleton.mp hb]
    exact I1.fpOk (Nat.le_refl _) (I1.hok.fresh (Nat.le_refl _))
  rcases hq with hq | hq
  · obtain ⟨its, _, pl, _⟩ := I1.list hq
    exact wpAny_pyIter_list pl.isList ⟨s1.heap.objs.size, [s1.heap.objs.size], _, _, H1, rfl, I1.kept (t' := s1.toks) fun b o e => Heap.get?_push_of_some _ e, turn_list a _, ⟨_, Heap.get?_push_size _ rfl, rfl, rfl⟩, own, q _ _ (fun H' e => seqL_at e hq) walk_list⟩
  · obtain ⟨its, _, pl, _⟩ := I1.tuple hq
    exact wpAny_pyIter_tuple (show s1.heap.IsTuple a its.toArray from pl) ⟨s1.heap.objs.size, [s1.heap.objs.size], _, _, H1, rfl, I1.kept (t' := s1.toks) fun b o e => Heap.get?_push_of_some _ e, turn_tuple a _, ⟨_, Heap.get?_push_size _ rfl, rfl, rfl⟩, own, q _ _ (fun H' e => seqT_at e hq) walk_tup⟩
end
end TCA
namespace TC
open PySem PySem.Spec PyProof.Rows L2 TCA
/-! ### what stands in the heap -/
abbrev Part : Type := Int × Rat
def parV (x : Part) : HO := .tup [.int x.1, .int x.2.num, .int (x.2.den : Int)]
def fraV (q : Rat) : HO := .tup [.int q.num, .int (q.den : Int)]
def Refs (H : Hp) : List Addr → List Part → Prop
  | [], [] => True
  | u :: us, x :: L => H u = some (parV x) ∧ Refs H us L
  | _, _ => False
theorem Refs.same {H H' : Hp} (e : Same H H') : ∀ {us : List Addr} {L : List Part}, Refs H us L → Refs H' us L
  | [], [], _ => trivial
  | u :: us, x :: L, h => ⟨e _ _ h.1, Refs.same e h.2⟩
  | [], _ :: _, h => h.elim
  | _ :: _, [], h => h.elim
theorem Refs.len {H : Hp} : ∀ {us : List Addr} {L : List Part}, Refs H us L → us.length = L.length
  | [], [], _ => rfl
  | u :: us, x :: L, h => congrArg Nat.succ (Refs.len h.2)
  | [], _ :: _, h => h.elim
  | _ :: _, [], h => h.elim
theorem Refs.get {H : Hp} : ∀ {us : List Addr} {L : List Part} {i : Nat} {v : V}, Refs H us L → (us.map V.ref)[i]? = some v → ∃ u x, v = .ref u ∧ us[i]? = some u ∧ L[i]? = some x ∧ H u = some (parV x)
  | [], [], i, v, _, e => by simp at e
  | u :: us, x :: L, 0, v, h, e => ⟨u, x, (Option.some.inj e).symm, rfl, rfl, h.1⟩
  | u :: us, x :: L, i + 1, v, h, e => by
    have e' : (us.map V.ref)[i]? = some v := e
    obtain ⟨u', x', a, b, c, d⟩ := Refs.get h.2 e'
    exact ⟨u', x', a, b, c, d⟩
  | [], _ :: _, _, _, h, _ => h.elim
  | _ :: _, [], _, _, h, _ => h.elim
theorem Refs.snoc {H : Hp} {u : Addr} {x : Part} (hu : H u = some (parV x)) : ∀ {us : List Addr} {L : List Part}, Refs H us L → Refs H (us ++ [u]) (L ++ [x])
  | [], [], _ => ⟨hu, trivial⟩
  | v :: us, y :: L, h => ⟨h.1, Refs.snoc hu h.2⟩
  | [], _ :: _, h => h.elim
  | _ :: _, [], h => h.elim
theorem Refs.all {H : Hp} : ∀ {us : List Addr} {L : List Part}, Refs H us L → ∀ u ∈ us, ∃ x, H u = some (parV x)
  | [], [], _, u, hu => by cases hu
  | v :: us, y :: L, h, u, hu => by
    rcases List.mem_cons.mp hu with e | e
    · rw [e]
      exact ⟨y, h.1⟩
    · exact Refs.all h.2 u e
  | [], _ :: _, h, _, _ => h.elim
  | _ :: _, [], h, _, _ => h.elim
theorem Refs.upd {H : Hp} {l : Addr} {o : HO} (hl : ∀ x, H l ≠ some (parV x)) : ∀ {us : List Addr} {L : List Part}, Refs H us L → Refs (L2.upd H l o) us L
  | [], [], _ => trivial
  | u :: us, x :: L, h => ⟨by
    rw [upd_ne fun e => hl x (by rw [← e]; exact h.1)]
    exact h.1, Refs.upd hl h.2⟩
  | [], _ :: _, h => h.elim
  | _ :: _, [], h => h.elim
def PartsL (H : Hp) (p : Addr) (L : List Part) : Prop := ∃ us, H p = some (.tup (us.map V.ref)) ∧ Refs H us L
theorem PartsL.same {H H' : Hp} {p : Addr} {L : List Part} (e : Same H H') (h : PartsL H p L) : PartsL H' p L := by
  obtain ⟨us, h1, h2⟩ := h
  exact ⟨us, e _ _ h1, h2.same e⟩
def NumAt (C : Addr) (H : Hp) (x : Addr) (L : List Part) : Prop := ∃ dx p, H x = some (.ins C dx [("parts", .ref p)]) ∧ PartsL H p L
theorem NumAt.same {C : Addr} {H H' : Hp} {x : Addr} {L : List Part} (e : Same H H') (h : NumAt C H x L) : NumAt C H' x L := by
  obtain ⟨dx, p, h1, h2⟩ := h
  exact ⟨dx, p, e _ _ h1, h2.same e⟩
/-! ### as data -/
def parD (x : Part) : PyData := .tuple [.int x.1, .int x.2.num, .int (x.2.den : Int)]
def toD (L : List Part) : PyData := .tuple (L.map parD)
theorem Refs.dp {K : PySem.W.Frag} {H : Hp} : ∀ {us : List Addr} {L : List Part}, Refs H us L → DpAll K H (us.map V.ref) (L.map parD)
  | [], [], _ => .nil
  | u :: us, x :: L, h => .cons (.tup (SqT.of h.1) (.cons (.int _) (.cons (.int _) (.cons (.int _) .nil)))) (Refs.dp h.2)
  | [], _ :: _, h => h.elim
  | _ :: _, [], h => h.elim
theorem PartsL.dp {K : PySem.W.Frag} {H : Hp} {p : Addr} {L : List Part} (h : PartsL H p L) : Dp K H (.ref p) (toD L) := by
  obtain ⟨us, h1, h2⟩ := h
  exact .tup (SqT.of h1) h2.dp
theorem toD_shaped (L : List Part) : SeqAt.shaped (toD L) = true := by
  have h1 : ∀ L : List Part, PyData.canLayAll0 (L.map parD) = true := fun L => by
    induction L with
    | nil => rfl
    | cons x L ih =>
      show (PyData.canLay0 (parD x) && PyData.canLayAll0 (L.map parD)) = true
      rw [ih]
      rfl
  have h2 : ∀ L : List Part, PyData.depthAll (L.map parD) ≤ 1 := fun L => by
    induction L with
    | nil => exact Nat.zero_le _
    | cons x L ih =>
      show max (PyData.depth (parD x)) (PyData.depthAll (L.map parD)) ≤ 1
      exact Nat.max_le.mpr ⟨Nat.le_refl 1, ih⟩
  show (PyData.canLayAll0 (L.map parD) && decide (PyData.depthAll (L.map parD) + 1 ≤ 64)) = true
  rw [h1, decide_eq_true (by have := h2 L; omega)]
  rfl
theorem parD_eqv (x y : Part) : PyData.eqv (parD x) (parD y) = decide (x = y) := by
  obtain ⟨r, q⟩ := x
  obtain ⟨s, p⟩ := y
  simp only [parD, PyData.eqv, PyData.eqvAll]
  by_cases h1 : r = s
  · by_cases h2 : q = p
    · subst h1
      subst h2
      simp
    · have h3 : ¬ (q.num = p.num ∧ (q.den : Int) = (p.den : Int)) := fun z => h2 (Rat.ext z.1 (by omega))
      have h4 : ¬ ((r, q) = (s, p)) := fun z => h2 (Prod.ext_iff.mp z).2
      rw [decide_eq_false h4]
      rcases Classical.not_and_iff_not_or_not.mp h3 with z | z
      · simp [z]
      · have z2 : ¬ q.den = p.den := fun w => z (by rw [w])
        simp [z2]
        exact fun _ _ => z
  · have h4 : ¬ ((r, q) = (s, p)) := fun z => h1 (Prod.ext_iff.mp z).1
    rw [decide_eq_false h4]
    simp [h1]
theorem toD_eqv (L M : List Part) : PyData.eqv (toD L) (toD M) = decide (L = M) := by
  show PyData.eqvAll (L.map parD) (M.map parD) = decide (L = M)
  induction L generalizing M with
  | nil =>
    cases M with
    | nil => rfl
    | cons y M => rfl
  | cons x L ih =>
    cases M with
    | nil => rfl
    | cons y M =>
      show (PyData.eqv (parD x) (parD y) && PyData.eqvAll (L.map parD) (M.map parD)) = _
      rw [parD_eqv, ih]
      by_cases h1 : x = y <;> by_cases h2 : L = M <;> simp [h1, h2]
/-! ### dicts from roots to fractions -/
def DictAt (H : Hp) (d : Addr) (ks : List Int) (g : Int → Rat) : Prop := ∃ kvs, H d = some (.dK kvs) ∧ kvs.map (·.1) = ks.map (Sum.inl : Int → Key) ∧
  (∀ r ∈ ks, ∃ u, valV kvs (Sum.inl r : Key) = some (.ref u) ∧ H u = some (fraV (g r))) ∧ ks.Nodup ∧ ∀ r, r ∉ ks → g r = 0
theorem DictAt.same {H H' : Hp} {d : Addr} {ks : List Int} {g : Int → Rat} (e : Same H H') (h : DictAt H d ks g) : DictAt H' d ks g := by
  obtain ⟨kvs, h1, h2, h3, h4⟩ := h
  exact ⟨kvs, e _ _ h1, h2, fun r hr => by
    obtain ⟨u, a, b⟩ := h3 r hr
    exact ⟨u, a, e _ _ b⟩, h4⟩
theorem DictAt.imp {H : Hp} {d : Addr} {ks : List Int} {g g' : Int → Rat} (h : DictAt H d ks g) (e : ∀ r, g r = g' r) : DictAt H d ks g' := by
  have : g = g' := funext e
  rw [← this]
  exact h
def addKey (ks : List Int) (r : Int) : List Int := if r ∈ ks then ks else ks ++ [r]
def setF (g : Int → Rat) (r : Int) (q : Rat) : Int → Rat := fun s => if s = r then q else g s
theorem addKey_len (ks : List Int) (r : Int) : (addKey ks r).length ≤ ks.length + 1 := by
  unfold addKey
  split
  · omega
  · rw [List.length_append, List.length_singleton]
    exact Nat.le_refl _
theorem mem_addKey {ks : List Int} {r s : Int} : s ∈ addKey ks r ↔ s ∈ ks ∨ s = r := by
  unfold addKey
  split
  · rename_i h
    exact ⟨.inl, fun z => z.elim id fun e => e ▸ h⟩
  · simp
theorem inl_ne {a b : Int} (h : a ≠ b) : (Sum.inl a : Key) ≠ Sum.inl b := fun e => h (Sum.inl.inj e)
theorem valV_out {kvs : List (Key × V)} {ks : List Int} {r : Int} (e : kvs.map (·.1) = ks.map (Sum.inl : Int → Key)) (h : r ∉ ks) : valV kvs (Sum.inl r : Key) = none := by
  cases z : valV kvs (Sum.inl r : Key) with
  | none => rfl
  | some v =>
    have m := valV_in z
    rw [e] at m
    obtain ⟨s, hs, es⟩ := List.mem_map.mp m
    exact absurd (Sum.inl.inj es ▸ hs) h
theorem keys_put {kvs : List (Key × V)} {ks : List Int} {r : Int} {v : V} (e : kvs.map (·.1) = ks.map (Sum.inl : Int → Key)) : (putK kvs (Sum.inl r : Key) v).map (·.1) = (addKey ks r).map (Sum.inl : Int → Key) := by
  unfold putK addKey
  by_cases h : r ∈ ks
  · have a : (kvs.any fun kv => decide (kv.1 = (Sum.inl r : Key))) = true := by
      have m : (Sum.inl r : Key) ∈ kvs.map (·.1) := by
        rw [e]
        exact List.mem_map.mpr ⟨r, h, rfl⟩
      obtain ⟨p, hp, ep⟩ := List.mem_map.mp m
      exact List.any_eq_true.mpr ⟨p, hp, decide_eq_true ep⟩
    rw [if_pos a, if_pos h, List.map_map, ← e]
    refine List.map_congr_left fun kv _ => ?_
    show (if kv.1 = (Sum.inl r : Key) then (kv.1, v) else kv).1 = kv.1
    split <;> rfl
  · have a : ¬ (kvs.any fun kv => decide (kv.1 = (Sum.inl r : Key))) = true := by
      rw [valV_any, valV_out e h]
      decide
    rw [if_neg a, if_neg h, List.map_append, List.map_append, e]
    rfl
theorem nd_addKey {ks : List Int} {r : Int} (h : ks.Nodup) : (addKey ks r).Nodup := by
  unfold addKey
  split
  · exact h
  · rename_i z
    rw [List.nodup_append]
    refine ⟨h, by simp, fun a ha b hb => ?_⟩
    rw [List.mem_singleton.mp hb]
    exact fun e => z (e ▸ ha)
theorem put_ok {H : Hp} {d u : Addr} {kvs : List (Key × V)} {ks : List Int} {g : Int → Rat} {r : Int} {q : Rat} (e : H d = some (.dK kvs)) (ek : kvs.map (·.1) = ks.map (Sum.inl : Int → Key))
    (hv : ∀ r ∈ ks, ∃ u, valV kvs (Sum.inl r : Key) = some (.ref u) ∧ H u = some (fraV (g r))) (nd : ks.Nodup) (out : ∀ r, r ∉ ks → g r = 0) (hu : H u = some (fraV q)) :
    DictAt (upd H d (.dK (putK kvs (Sum.inl r : Key) (.ref u)))) d (addKey ks r) (setF g r q) := by
  have nu : ∀ {v : Addr} {p : Rat}, H v = some (fraV p) → v ≠ d := fun {v p} hv z => by
    rw [z, e] at hv
    cases hv
  refine ⟨_, upd_same, keys_put ek, fun s hs => ?_, nd_addKey nd, fun s hs => ?_⟩
  · rw [valV_put]
    by_cases es : s = r
    · subst es
      refine ⟨u, if_pos rfl, ?_⟩
      rw [upd_ne (nu hu)]
      show H u = some (fraV (if s = s then q else g s))
      rw [if_pos rfl]
      exact hu
    · have hs' : s ∈ ks := (mem_addKey.mp hs).resolve_right es
      obtain ⟨v, a, b⟩ := hv s hs'
      refine ⟨v, by rw [if_neg (inl_ne es)]; exact a, ?_⟩
      rw [upd_ne (nu b)]
      show H v = some (fraV (if s = r then q else g s))
      rw [if_neg es]
      exact b
  · have h1 : s ∉ ks := fun z => hs (mem_addKey.mpr (.inl z))
    have h2 : s ≠ r := fun z => hs (mem_addKey.mpr (.inr z))
    show (if s = r then q else g s) = 0
    rw [if_neg h2, out s h1]
theorem dget_in {H : Hp} {d : Addr} {kvs : List (Key × V)} {r : Int} {v : V} (e : H d = some (.dK kvs)) (h : valV kvs (Sum.inl r : Key) = some v) : DGet H d (.int r) (some v) := by
  have z := DGet.k (k := (Sum.inl r : Key)) e
  rw [h] at z
  exact z
theorem dget_out {H : Hp} {d : Addr} {kvs : List (Key × V)} {r : Int} (e : H d = some (.dK kvs)) (h : valV kvs (Sum.inl r : Key) = none) : DGet H d (.int r) none := by
  have z := DGet.k (k := (Sum.inl r : Key)) e
  rw [h] at z
  exact z
theorem len_keys {kvs : List (Key × V)} {ks : List Int} (e : kvs.map (·.1) = ks.map (Sum.inl : Int → Key)) : kvs.length = ks.length := by
  have := congrArg List.length e
  simpa using this
end TC
namespace TC
open PySem PySem.Spec PyProof.Rows L2 TCA
theorem fdiv_nat (m n : Nat) : (m : Int).fdiv (n : Int) = ((m / n : Nat) : Int) := by
  rw [Int.fdiv_eq_ediv_of_nonneg _ (by omega)]
  rfl
theorem cdivn {i : Int} {n B : Nat} (h0 : 0 < n) (h : n < 2 ^ B) (hB : 0 < B) (hB2 : B ≤ 8000) : CDivNW i (n : Int) := ⟨by omega, log_lt (n := B) (by omega) hB (by rw [Int.natAbs_natCast]; exact h)⟩
theorem cmulw {i j : Int} {A B : Nat} (h1 : i.natAbs < 2 ^ A) (h2 : j.natAbs < 2 ^ B) (hA : 0 < A) (hB : 0 < B) (h : A + B ≤ 100000) : CMulW i j := wide_mul h1 h2 hA hB (by omega)
/-- what is asked of the class Exact as the top has made it -/
structure TxtN (K : PySem.W.Frag) (mg : Str → Option Value) (C fI fQ : Addr) : Prop where
  cl : Cls K C
  nP : NoAttr K C "parts"
  mkr : Mk K C fI
  mq : Meth K C "__eq__" fQ
  mgC : mg "Exact" = some (.ref C)
  ne : PySem.W.findIn K (.ref C) "__ne__" = some (some (.builtin "object.__ne__"))
  ca : PySem.W.findIn K (.ref C) "__class__" = some (some (.builtin "object.__class__"))
  cn : PySem.W.specialIn K (.builtin "object.__class__") "__get__" = some (some (.builtin "getset_descriptor.__get__"))
  ct : PySem.W.takesIn K (.builtin "object.__class__") = some true
  cm : PySem.W.mroIn K C (.type "object") = some true
abbrev kwE : List (Str × V) := [("bottom", .int 1), ("root", .int 1)]
abbrev psE : List Str := ["top", "bottom", "root"]
abbrev FnE (K : PySem.W.Frag) (f : Addr) (fd : FuncData) : Prop := FunD K "exact" "exact" (defArgs sExact) (defBody sExact) (defScope sExact) [] kwE f fd
abbrev FnM (K : PySem.W.Frag) (m q : Str) (st : Stmt) (f : Addr) (fd : FuncData) : Prop := FunD K m q (defArgs st) (defBody st) (defScope st) [] [] f fd
/-- the parts of top / bottom times the root of a number with the squares taken out -/
def oneL (r t b : Int) : List Part := if t = 0 then [] else [(r, Rat.divInt t b)]
def exL (t b r : Int) : List Part := oneL (TCM.sqOut r).2.1 (t * (TCM.sqOut r).1) b
def RootOk (r : Int) : Prop := 0 ≤ r ∧ r ≤ 1000000 ∧ (TCM.sqOut r).2.2 = 1 ∧ 0 ≤ (TCM.sqOut r).1 ∧ (TCM.sqOut r).1 ≤ 1000
section
variable {P : Program} {w : World} {K : PySem.W.Frag} {mg : Str → Option Value} {base : Heap} {f : Addr} {fd : FuncData} {C fI fQ : Addr}
theorem TxtN.ty (T : TxtN K mg C fI fQ) {H : Hp} {a dx : Addr} {fs : List (Str × V)} (e : H a = some (.ins C dx fs)) : TyX K H (.ref a) (.ref C) := .base (.ins e T.cl T.ca T.cn T.ct T.cm)
theorem kit_self : PySem.W.kitOne K (.ref C) (.ref C) = some true := by
  show (if ((Value.ref C) == (Value.ref C)) = true then some true else _) = some true
  rw [if_pos (by simp)]
/-! ### sum_in_lowest -/
def spSumLow : Sp := fun vs H Q _ => ∃ (p q : Rat) (A B : Nat), vs = [.int p.num, .int (p.den : Int), .int q.num, .int (q.den : Int)] ∧ TCR.Sz A p ∧ TCR.Sz B q ∧ 0 < A ∧ 0 < B ∧ A + B ≤ 8000 ∧ ∀ c, H c = none → Q (.ref c) (upd H c (fraV (p + q)))
theorem scSumLow : FnScope ["top", "bottom", "other", "below", "common", "found", "left"] ["top", "bottom", "other", "below"] (defScope sSumLow) := ⟨rfl, rfl, rfl, by decide +kernel, rfl, by decide +kernel, by decide +kernel⟩
theorem ok_sumLow {fS : Addr} {fdS : FuncData} (F : FnP K "sum_in_lowest" sSumLow f fd) (GS : FnOk P w K mg base CX0 1 fS fdS ["one", "other"] spShared) (bS : L2.Binds K fdS ["one", "other"] []) (kS : PySem.W.keepIn K (.ref fS) = true) (gS : mg "shared" = some (.ref fS)) :
    FnOk P w K mg base CX0 2 f fd ["top", "bottom", "other", "below"] spSumLow := by
  refine F.ok scSumLow (fun vs H Q E h => ?_) (fun cdv A outer s H vs Q E hr h => ?_)
  · obtain ⟨p, q, A, B, rfl, _⟩ := h
    rfl
  · obtain ⟨p, q, a, b, rfl, zp, zq, a0, b0, ab, k⟩ := h
    refine ⟨_, PSs.nox (pss_cons (ps_set (i := 4) scSumLow.nd rfl (.inl rfl) (pe_call GS hr (by rfl) gS kS bS .nil pass0 (pa_cons (pv 1) (pa_cons (pv 3) pa_nil))))
      (pss_cons (ps_set (i := 5) scSumLow.nd rfl (.inl rfl) (pe_op op_add (pe_op op_mulW (pv 0) (pe_op op_fdivNW (pv 3) (pv 4))) (pe_op op_mulW (pv 2) (pe_op op_fdivNW (pv 1) (pv 4)))))
      (pss_cons (ps_set (i := 6) scSumLow.nd rfl (.inl rfl) (pe_call GS hr (by rfl) gS kS bS .nil pass0 (pa_cons (pv 5) (pa_cons (pv 4) pa_nil))))
      (pss_one (ps_ret (pe_tup (pa_cons (pe_op op_fdivNW (pv 5) (pv 6)) (pa_cons (pe_op op_mulW (pe_op op_fdivNW (pv 1) (pv 4)) (pe_op op_fdivNW (pv 3) (pv 6))) pa_nil)))))))), ?_⟩
    obtain ⟨e1, e2, g0, l0, ga, gb, ln, lb⟩ := TCR.sum_low p q
    have gle : Nat.gcd p.den q.den ≤ p.den := Nat.le_of_dvd p.den_pos ga
    have cg : ∀ i, CDivNW i ((Nat.gcd p.den q.den : Nat) : Int) := fun i => cdivn g0 (Nat.lt_of_le_of_lt gle zp.2) a0 (by omega)
    have qd : ((q.den / Nat.gcd p.den q.den : Nat) : Int).natAbs < 2 ^ b := by
      rw [Int.natAbs_natCast]
      exact Nat.lt_of_le_of_lt (Nat.div_le_self ..) zq.2
    have pd : ((p.den / Nat.gcd p.den q.den : Nat) : Int).natAbs < 2 ^ a := by
      rw [Int.natAbs_natCast]
      exact Nat.lt_of_le_of_lt (Nat.div_le_self ..) zp.2
    refine ⟨_, rfl, _, rfl, (p.den : Int), (q.den : Int), rfl, ?_⟩
    show tSeq _ _ _ [some (V.int p.num), some (V.int (p.den : Int)), some (V.int q.num), some (V.int (q.den : Int)), some (V.int ((Nat.gcd p.den q.den : Nat) : Int)), none, none] H
    refine ⟨_, rfl, _, rfl, _, rfl, (q.den : Int), _, rfl, rfl, cg _, p.num, _, rfl, rfl, ?_, ?_⟩
    · rw [fdiv_nat]
      exact cmulw zp.1 qd a0 b0 (by omega)
    refine ⟨_, rfl, _, rfl, _, rfl, (p.den : Int), _, rfl, rfl, cg _, q.num, _, rfl, rfl, ?_, _, _, rfl, rfl, ?_⟩
    · rw [fdiv_nat]
      exact cmulw zq.1 pd b0 a0 (by omega)
    rw [fdiv_nat, fdiv_nat]
    show tSeq _ _ _ [some (V.int p.num), some (V.int (p.den : Int)), some (V.int q.num), some (V.int (q.den : Int)), some (V.int ((Nat.gcd p.den q.den : Nat) : Int)), some (V.int (p.num * ((q.den / Nat.gcd p.den q.den : Nat) : Int) + q.num * ((p.den / Nat.gcd p.den q.den : Nat) : Int))), none] H
    generalize hnum : p.num * ((q.den / Nat.gcd p.den q.den : Nat) : Int) + q.num * ((p.den / Nat.gcd p.den q.den : Nat) : Int) = num at e1 e2 l0 ln lb ⊢
    refine ⟨_, rfl, _, rfl, num, ((Nat.gcd p.den q.den : Nat) : Int), rfl, ?_⟩
    rw [show Int.gcd num ((Nat.gcd p.den q.den : Nat) : Int) = Nat.gcd num.natAbs (Nat.gcd p.den q.den) from rfl]
    generalize hl : Nat.gcd num.natAbs (Nat.gcd p.den q.den) = l at e1 e2 l0 ln lb ⊢
    have ll : l ≤ q.den := Nat.le_of_dvd q.den_pos lb
    have cl : ∀ i, CDivNW i ((l : Nat) : Int) := fun i => cdivn l0 (Nat.lt_of_le_of_lt ll zq.2) b0 (by omega)
    refine ⟨_, rfl, _, rfl, num, _, rfl, rfl, cl _, _, rfl, _, rfl, (p.den : Int), _, rfl, rfl, cg _, _, rfl, _, rfl, (q.den : Int), _, rfl, rfl, cl _, _, _, rfl, rfl, ?_, by show 2 ≤ sizeLine; decide, fun c hc => ?_⟩
    · rw [fdiv_nat, fdiv_nat]
      exact cmulw pd (by rw [Int.natAbs_natCast]; exact Nat.lt_of_le_of_lt (Nat.div_le_self ..) zq.2) a0 b0 (by omega)
    · have z := k c hc
      have ef : fraV (p + q) = .tup [.int (num.fdiv (l : Int)), .int ((p.den : Int).fdiv ((Nat.gcd p.den q.den : Nat) : Int) * (q.den : Int).fdiv (l : Int))] := by
        unfold fraV
        rw [e1, e2, fdiv_nat, fdiv_nat, Int.fdiv_eq_ediv_of_nonneg _ (by omega)]
        rfl
      rw [ef] at z
      exact z
/-! ### __init__ -/
def spInit (C : Addr) : Sp := fun vs H Q _ => ∃ (x dx : Addr) (v : V), vs = [.ref x, v] ∧ H x = some (.ins C dx []) ∧ Q .non (upd H x (.ins C dx [("parts", v)]))
theorem scInit : FnScope ["self", "parts"] ["self", "parts"] (defScope sInit) := ⟨rfl, rfl, rfl, by decide +kernel, rfl, by decide +kernel, by decide +kernel⟩
theorem ok_init (F : FnM K "__init__" "Exact.__init__" sInit f fd) (T : TxtN K mg C fI fQ) : FnOk P w K mg base CX0 1 f fd ["self", "parts"] (spInit C) := by
  refine F.ok scInit (fun vs H Q E h => ?_) (fun cdv A outer s H vs Q E hr h => ?_)
  · obtain ⟨x, dx, v, rfl, _⟩ := h
    rfl
  · obtain ⟨x, dx, v, rfl, hx, q⟩ := h
    refine ⟨_, PSs.nox (pss_one (ps_fld (pv 0) (pv 1) rfl)), ?_⟩
    exact ⟨_, rfl, _, rfl, x, C, dx, [], rfl, hx, T.cl, T.nP, (by show 0 < 1000; decide), q⟩
/-- Exact(p) behind its making -/
theorem made_num {H : Hp} {p : Addr} {L : List Part} {Q : VK} (hp : PartsL H p L) (q : ∀ x H', Same H H' → H x = none → NumAt C H' x L → Q (.ref x) H') :
    ∀ x dx, H x = none → H dx = none → dx ≠ x → spInit C (.ref x :: ([.ref p] ++ [])) (upd (upd H dx (.own x)) x (.ins C dx [])) (fun v H2 => v = .non ∧ Q (.ref x) H2) E0 := by
  intro x dx hx hdx hne
  refine ⟨x, dx, .ref p, rfl, upd_same, rfl, ?_⟩
  have smx : Same H (upd (upd (upd H dx (.own x)) x (.ins C dx [])) x (.ins C dx [("parts", .ref p)])) := fun b o e => by
    rw [upd_ne (ne_of_none e hx), upd_ne (ne_of_none e hx), upd_ne (ne_of_none e hdx)]
    exact e
  exact q x _ smx hx ⟨dx, p, upd_same, hp.same smx⟩
/-! ### __eq__ -/
def spEqN (C : Addr) : Sp := fun vs H Q _ => ∃ (x y : Addr) (L M : List Part), vs = [.ref x, .ref y] ∧ NumAt C H x L ∧ NumAt C H y M ∧ Q (.bl (decide (L = M))) H
theorem scEq : FnScope ["self", "other"] ["self", "other"] (defScope sEq) := ⟨rfl, rfl, rfl, by decide +kernel, rfl, by decide +kernel, by decide +kernel⟩
theorem ok_eq (F : FnM K "__eq__" "Exact.__eq__" sEq f fd) (T : TxtN K mg C fI fQ) (gI : mg "isinstance" = none) : FnOk P w K mg base CX0 1 f fd ["self", "other"] (spEqN C) := by
  refine F.ok scEq (fun vs H Q E h => ?_) (fun cdv A outer s H vs Q E hr h => ?_)
  · obtain ⟨x, y, L, M, rfl, _⟩ := h
    rfl
  · obtain ⟨x, y, L, M, rfl, ⟨dx, p, hx, hp⟩, ⟨dy, p', hy, hp'⟩, q⟩ := h
    have hu : (A.deeper (envOfC "Exact.__eq__" (defScope sEq) s.heap.objs.size f cdv)).units + 64 < cLine := by
      have := hr.un
      omega
    refine ⟨_, PSs.nox (pss_one (ps_ret (pe_and (pe_callB call_isi (by rfl) gI (by decide +kernel) (pa_cons (pv 1) (pa_cons (pe_glob (v := .ref C) (by rfl) T.mgC rfl) pa_nil)))
      (pe_one (pe_cmpR (op_eqD hu) (pe_fld (pv 0) rfl) (pe_fld (pv 1) rfl) (nomark _)))))), ?_⟩
    refine ⟨_, rfl, _, _, _, _, true, rfl, .own C, T.ty hy, kit_self, true, rfl, iteT ?_⟩
    refine ⟨_, rfl, x, C, dx, _, _, rfl, hx, T.cl, T.nP, rfl, _, rfl, y, C, dy, _, _, rfl, hy, T.cl, T.nP, rfl, toD L, toD M, hp.dp, hp'.dp, toD_shaped L, toD_shaped M, ?_⟩
    rw [toD_eqv]
    exact q
/-! ### need_exact -/
def spNeed (C : Addr) : Sp := fun vs H Q _ => ∃ (x : Addr) (L : List Part), vs = [.ref x] ∧ NumAt C H x L ∧ Q .non H
theorem scNeed : FnScope ["thing"] ["thing"] (defScope sNeed) := ⟨rfl, rfl, rfl, by decide +kernel, rfl, by decide +kernel, by decide +kernel⟩
theorem ok_need (F : FnP K "need_exact" sNeed f fd) (T : TxtN K mg C fI fQ) (gI : mg "isinstance" = none) : FnOk P w K mg base CX0 1 f fd ["thing"] (spNeed C) := by
  refine F.ok scNeed (fun vs H Q E h => ?_) (fun cdv A outer s H vs Q E hr h => ?_)
  · obtain ⟨x, L, rfl, _⟩ := h
    rfl
  · obtain ⟨x, L, rfl, ⟨dx, p, hx, hp⟩, q⟩ := h
    refine ⟨_, PSs.nox (pss_one (ps_if (pt_not (pt_val (pe_callB call_isi (by rfl) gI (by decide +kernel) (pa_cons (pv 0) (pa_cons (pe_glob (v := .ref C) (by rfl) T.mgC rfl) pa_nil))))) pss_never pss_nil)), ?_⟩
    exact ⟨_, rfl, _, _, _, _, true, rfl, .own C, T.ty hx, kit_self, true, rfl, iteF q⟩
/-! ### lowered, of one root -/
end
end TC
namespace TC
open PySem PySem.Spec PyProof.Rows L2 TCA
theorem same_at {H H1 : Hp} {d : Addr} {o : HO} (s : Same H H1) (h : H d = none) : Same H (upd H1 d o) := fun b x e => by
  rw [upd_ne (ne_of_none e h)]
  exact s _ _ e
theorem rfst (x : Part) : parV x = .tup [.int x.1, .int x.2.num, .int (x.2.den : Int)] := rfl
section
variable {P : Program} {w : World} {K : PySem.W.Frag} {mg : Str → Option Value} {base : Heap} {f : Addr} {fd : FuncData} {C fI fQ : Addr}
/-! ### merged -/
def spMerged : Sp := fun vs H Q _ => ∃ (a o : Addr) (L M : List Part) (us : List Addr) (A B : Nat), vs = [.ref a, .ref o] ∧ PartsL H a L ∧ TCR.Canon L ∧ (H o = some (.tup (us.map V.ref)) ∨ H o = some (.lst (us.map V.ref))) ∧ Refs H us M ∧ TCR.Canon M ∧
  (∀ x ∈ L, TCR.Sz A x.2) ∧ (∀ x ∈ M, TCR.Sz B x.2) ∧ 0 < A ∧ 0 < B ∧ A + B ≤ 7000 ∧ L.length + M.length ≤ 60 ∧
  ∀ p N H', Same H H' → H p = none → PartsL H' p N → TCR.Canon N → (∀ r, TCR.val N r = TCR.val L r + TCR.val M r) → N.length ≤ L.length + M.length → Q (.ref p) H'
theorem scMerged : FnScope ["parts", "others", "root", "top", "bottom", "fractions", "first", "below", "kept"] ["parts", "others"] (defScope sMerged) := ⟨rfl, rfl, rfl, by decide +kernel, rfl, by decide +kernel, by decide +kernel⟩
theorem ok_merged {fS : Addr} {fdS : FuncData} (F : FnP K "merged" sMerged f fd) (GS : FnOk P w K mg base CX0 2 fS fdS ["top", "bottom", "other", "below"] spSumLow) (bS : L2.Binds K fdS ["top", "bottom", "other", "below"] []) (kS : PySem.W.keepIn K (.ref fS) = true) (gS : mg "sum_in_lowest" = some (.ref fS))
    (gs : mg "sorted" = none) (gl : mg "list" = none) (gt : mg "tuple" = none) : FnOk P w K mg base CX0 3 f fd ["parts", "others"] spMerged := by
  refine F.ok scMerged (fun vs H Q E h => ?_) (fun cdv Ar outer s H vs Q E hr h => ?_)
  · obtain ⟨a, o, L, M, us, A, B, rfl, _⟩ := h
    rfl
  · obtain ⟨a, o, L, M, us, A, B, rfl, ⟨ul, ha, hL⟩, cL, ho, hM, cM, zL, zM, A0, B0, AB, len, q⟩ := h
    have hu := hu_of hr
    refine ⟨_, PSs.nox (pss_cons (ps_setDc (own := [("root", 2), ("top", 3), ("bottom", 4)]) (g := gTup K 3 (gCons (gName 2) (gCons (gName 3) (gCons (gName 4) gNil)))) (tt := tYes) (i := 5) rfl scMerged.nd rfl rfl (sw_dict rfl rfl rfl (by decide +kernel)) (pi_tup (pv 0))
          (blkOk_by (N := ["parts", "others", "root", "top", "bottom", "fractions", "first", "below", "kept"]) (sc := defScope sMerged) (by decide +kernel))
          (fun _ _ _ _ _ => pg_tup rfl (pgs_cons (pg_name (i := 2) scMerged.nd rfl (.inl rfl)) (pgs_cons (pg_name (i := 3) scMerged.nd rfl (.inl rfl)) (pgs_cons (pg_name (i := 4) scMerged.nd rfl (.inl rfl)) pgs_nil)))) (fun _ _ _ _ _ => pts_nil) (fun _ _ _ _ _ => pv 2) (fun _ _ _ _ _ => pe_tup (pa_cons (pv 3) (pa_cons (pv 4) pa_nil))))
      (pss_cons (ps_for PassesOwn.never rfl (pi_seq (pv 1)) (pg_tup rfl (pgs_cons (pg_name (i := 2) scMerged.nd rfl (.inl rfl)) (pgs_cons (pg_name (i := 3) scMerged.nd rfl (.inl rfl)) (pgs_cons (pg_name (i := 4) scMerged.nd rfl (.inl rfl)) pgs_nil))))
        (pss_one (ps_if (pt_cmp (pc_din hu (pv 2) (pv 5)))
          (pss_cons (ps_asg (pe_dget hu (pv 5) (pv 2) (fun _ _ => rfl)) (pg_tup rfl (pgs_cons (pg_name (i := 6) scMerged.nd rfl (.inl rfl)) (pgs_cons (pg_name (i := 7) scMerged.nd rfl (.inl rfl)) pgs_nil))))
            (pss_one (ps_dput hu (pv 5) (pv 2) (pe_call GS hr (by rfl) gS kS bS .nil pass0 (pa_cons (pv 6) (pa_cons (pv 7) (pa_cons (pv 3) (pa_cons (pv 4) pa_nil))))) rfl)))
          (pss_one (ps_dput hu (pv 5) (pv 2) (pe_tup (pa_cons (pv 3) (pa_cons (pv 4) pa_nil))) rfl)))))
      (pss_cons (ps_set (i := 8) scMerged.nd rfl (.inl rfl) (pe_lst pa_nil))
      (pss_cons (ps_for PassesOwn.never rfl (pi_list (pe_callB cr_sorted (by rfl) gs (by decide +kernel) (pa_cons (pe_callTy (call_listD rfl) (by rfl) gl (by decide +kernel) (pa_cons (pv 5) pa_nil)) pa_nil))) (pg_name (i := 2) scMerged.nd rfl (.inl rfl))
        (pss_cons (ps_asg (pe_dget hu (pv 5) (pv 2) (fun _ _ => rfl)) (pg_tup rfl (pgs_cons (pg_name (i := 3) scMerged.nd rfl (.inl rfl)) (pgs_cons (pg_name (i := 4) scMerged.nd rfl (.inl rfl)) pgs_nil))))
          (pss_one (ps_if (pt_cmpR op_ne (pv 3) pe_int (nomark _)) (pss_one (ps_expr (pe_bm PySem.F.plainAttrs_list PySem.F.slot_list_append PySem.F.type_list_append mt_append (pv 8) (pa_cons (pe_tup (pa_cons (pv 2) (pa_cons (pv 3) (pa_cons (pv 4) pa_nil)))) pa_nil)))) pss_nil))))
      (pss_one (ps_ret (pe_callTy call_tuple_of (by rfl) gt (by decide +kernel) (pa_cons (pv 8) pa_nil)))))))), ?_⟩
    -- fractions
    refine ⟨_, rfl, a, rfl, ⟨_, SqT.of ha⟩, fun D hD => dc_tup (xs := ul.map V.ref) (fun i H' => Same H H' ∧ ∃ ks, DictAt H' D ks (TCR.val (L.take i)) ∧ ks.length ≤ i) ?_ (fun i H' _ hP => SqT.of (hP.1 _ _ ha)) (fun i x H' hx hP => ?_) (fun H' hP => ?_)⟩
    · exact ⟨same_upd hD, [], ⟨[], upd_same, rfl, (fun r hr => by cases hr), List.nodup_nil, fun _ _ => rfl⟩, Nat.le_refl _⟩
    · obtain ⟨sm, ks, hD', lk⟩ := hP
      obtain ⟨u, y, rfl, hu', hy, hyv⟩ := (hL.same sm).get hx
      have il : i < L.length := (List.getElem?_eq_some_iff.mp hy).1
      refine ⟨u, _, rfl, SqT.of hyv, rfl, _, _, rfl, _, _, rfl, _, _, rfl, rfl, rfl, ?_⟩
      refine ⟨_, rfl, _, rfl, _, rfl, by show 2 ≤ sizeLine; decide, fun c hc => ?_⟩
      have smc := same_upd (o := fraV y.2) hc
      obtain ⟨kvs, e1, e2, e3, e4, e5⟩ := hD'.same smc
      refine ⟨kvs, Sum.inl y.1, rfl, e1, small1000 (by rw [len_keys e2]; omega), same_at (sm.trans smc) hD, addKey ks y.1, ?_, ?_⟩
      · refine (put_ok (r := y.1) (q := y.2) e1 e2 e3 e4 e5 upd_same).imp fun s => ?_
        exact (TCR.val_take cL s hy).2.symm
      · exact Nat.le_trans (addKey_len ks y.1) (by omega)
    obtain ⟨sm1, ks1, hD1, lk1⟩ := hP
    rw [List.length_map, hL.len, List.take_length] at hD1
    rw [List.length_map, hL.len] at lk1
    -- others
    refine ⟨_, rfl, o, us.map V.ref, rfl, ?_, fun J G hG wk => ?_⟩
    · rcases ho with ho | ho
      · exact .inr (SqT.of (sm1 _ _ ho))
      · exact .inl (SqL.of (sm1 _ _ ho))
    refine for_it wk (fun i σ H2 => ∃ (v2 v3 v4 v6 v7 : Option V) (ks : List Int), σ = [some (.ref a), some (.ref o), v2, v3, v4, some (.ref D), v6, v7, none] ∧ Same H H2 ∧ DictAt H2 D ks (fun r => TCR.val L r + TCR.val (M.take i) r) ∧ ks.length ≤ L.length + i)
      ⟨none, none, none, none, none, ks1, rfl, sm1, hD1.imp fun r => by show TCR.val L r = TCR.val L r + 0; grind, lk1⟩ (fun i σ H2 _ hP => ?_) (fun i x σ H2 H3 hi hP hy => ?_) (fun σ H2 hP => ?_)
    · obtain ⟨_, _, _, _, _, _, _, sm, _⟩ := hP
      refine hG H2 fun u eu => ?_
      rcases ho with ho | ho
      · rw [sm1 _ _ ho] at eu
        rw [← eu]
        exact sm _ _ ho
      · rw [sm1 _ _ ho] at eu
        rw [← eu]
        exact sm _ _ ho
    · obtain ⟨rfl, hx⟩ := hy
      obtain ⟨v2, v3, v4, v6, v7, ks, rfl, sm, hD2, lk⟩ := hP
      obtain ⟨u, y, rfl, hu', hy, hyv⟩ := (hM.same sm).get hx
      have il : i < M.length := (List.getElem?_eq_some_iff.mp hy).1
      have t0 := (TCR.val_take cM y.1 hy).1
      have t1 := fun s => (TCR.val_take cM s hy).2
      refine ⟨u, _, rfl, SqT.of hyv, rfl, _, _, rfl, _, _, rfl, _, _, rfl, rfl, ?_⟩
      obtain ⟨kvs, e1, e2, e3, e4, e5⟩ := id hD2
      by_cases hk : y.1 ∈ ks
      · obtain ⟨u1, f1, f2⟩ := e3 y.1 hk
        refine ⟨_, rfl, _, rfl, D, _, rfl, dget_in e1 f1, _, rfl, iteT ?_⟩
        refine ⟨_, rfl, _, rfl, D, _, rfl, dget_in e1 f1, u1, _, rfl, SqT.of f2, rfl, _, _, rfl, _, _, rfl, rfl, ?_⟩
        have zg : TCR.Sz A (TCR.val L y.1 + TCR.val (M.take i) y.1) := by
          rw [t0]
          have z := TCR.Sz.val A0 zL y.1
          have e : TCR.val L y.1 + 0 = TCR.val L y.1 := by grind
          rw [e]
          exact z
        refine ⟨_, rfl, _, rfl, _, rfl, _, rfl, _, y.2, A, B, rfl, zg, zM y (List.mem_of_getElem? hy), A0, B0, by omega, fun c hc => ?_⟩
        have smc := same_upd (o := fraV (TCR.val L y.1 + TCR.val (M.take i) y.1 + y.2)) hc
        obtain ⟨kvs', e1', e2', e3', e4', e5'⟩ := hD2.same smc
        refine ⟨_, rfl, _, rfl, D, _, rfl, DPut.k (k := Sum.inl y.1) e1' (small1000 (by rw [len_keys e2']; omega)), ?_⟩
        refine ⟨_, _, _, _, _, addKey ks y.1, rfl, same_at (sm.trans smc) hD, ?_, ?_⟩
        · refine (put_ok (r := y.1) e1' e2' e3' e4' e5' upd_same).imp fun s => ?_
          rw [t1 s]
          unfold setF
          by_cases es : s = y.1
          · rw [if_pos es, if_pos es, es, t0]
            grind
          · rw [if_neg es, if_neg es]
        · exact Nat.le_trans (addKey_len ks y.1) (by omega)
      · refine ⟨_, rfl, _, rfl, D, _, rfl, dget_out e1 (valV_out e2 hk), _, rfl, iteF ?_⟩
        refine ⟨_, rfl, _, rfl, by show 2 ≤ sizeLine; decide, fun c hc => ?_⟩
        have smc := same_upd (o := fraV y.2) hc
        obtain ⟨kvs', e1', e2', e3', e4', e5'⟩ := hD2.same smc
        refine ⟨_, rfl, _, rfl, D, _, rfl, DPut.k (k := Sum.inl y.1) e1' (small1000 (by rw [len_keys e2']; omega)), ?_⟩
        refine ⟨_, _, _, _, _, addKey ks y.1, rfl, same_at (sm.trans smc) hD, ?_, ?_⟩
        · refine (put_ok (r := y.1) (q := y.2) e1' e2' e3' e4' e5' upd_same).imp fun s => ?_
          rw [t1 s]
          unfold setF
          by_cases es : s = y.1
          · have z : TCR.val L y.1 + TCR.val (M.take i) y.1 = 0 := e5 y.1 hk
            rw [if_pos es, if_pos es, es]
            rw [t0] at z
            grind
          · rw [if_neg es, if_neg es]
        · exact Nat.le_trans (addKey_len ks y.1) (by omega)
    obtain ⟨v2, v3, v4, v6, v7, ks, rfl, sm2, hD2, lk⟩ := hP
    rw [List.length_map, hM.len, List.take_length] at hD2
    rw [List.length_map, hM.len] at lk
    generalize hg : (fun r => TCR.val L r + TCR.val M r) = g at hD2
    have hgv : ∀ r, g r = TCR.val L r + TCR.val M r := fun r => by rw [← hg]
    -- kept
    refine ⟨Nat.zero_le _, fun l hl => ?_⟩
    have sm3 := same_upd (o := .lst []) hl
    obtain ⟨kvs, e1, e2, e3, e4, e5⟩ := hD2.same sm3
    have elist : kvs.map (fun kv => kV kv.1) = ks.map V.int := by
      have z := congrArg (List.map kV) e2
      rw [List.map_map, List.map_map] at z
      exact z
    refine ⟨_, rfl, D, kvs, rfl, .inl e1, fun l2 hl2 => ?_⟩
    rw [elist]
    have sm4 := same_upd (o := .lst (ks.map V.int)) hl2
    refine ⟨l2, ks, rfl, SqL.of upd_same, by omega, fun ns l3 hperm hsort hl3 => ?_⟩
    have sm5 := same_upd (o := .lst (ns.map V.int)) hl3
    have ndn : ns.Nodup := hperm.nodup_iff.mpr e4
    have nl3 : l ≠ l3 := ne_of_none (sm4 l _ (upd_same (H := H2))) hl3
    have nDl : D ≠ l := by
      obtain ⟨_, z, _⟩ := hD2
      exact ne_of_none z hl
    have smA := sm2.trans (sm3.trans (sm4.trans sm5))
    have nHl : H l = none := sm2.free hl
    have nHl3 : H l3 = none := (sm2.trans (sm3.trans sm4)).free hl3
    refine ⟨l3, rfl, ⟨_, SqL.of upd_same⟩, for_list (xs := ns.map V.int) (fun i σ H' => ∃ (w2 w3 w4 : Option V) (vs : List Addr), σ = [some (.ref a), some (.ref o), w2, w3, w4, some (.ref D), v6, v7, some (.ref l)] ∧ Same H H' ∧ H' l = some (.lst (vs.map V.ref)) ∧ H' l3 = some (.lst (ns.map V.int)) ∧ DictAt H' D ks g ∧ Refs H' vs (TCR.kept g (ns.take i)))
      ⟨v2, v3, v4, [], rfl, smA, sm5 _ _ (sm4 _ _ upd_same), upd_same, hD2.same (sm3.trans (sm4.trans sm5)), trivial⟩ (fun i σ H' _ hP => ?_) (fun i x σ H' hx hP => ?_) (fun σ H' hP => ?_)⟩
    · obtain ⟨_, _, _, _, _, _, _, z, _⟩ := hP
      exact SqL.of z
    · obtain ⟨w2, w3, w4, vs, rfl, sm, el, el3, hD3, hR⟩ := hP
      rw [List.getElem?_map] at hx
      obtain ⟨r, hr', rfl⟩ : ∃ r, ns[i]? = some r ∧ V.int r = x := by
        cases e : ns[i]? with
        | none =>
          rw [e] at hx
          cases hx
        | some p =>
          rw [e] at hx
          exact ⟨p, rfl, Option.some.inj hx⟩
      have rk : r ∈ ks := hperm.mem_iff.mp (List.mem_of_getElem? hr')
      have etake : ns.take (i + 1) = ns.take i ++ [r] := by
        rw [List.take_add_one, hr']
        rfl
      obtain ⟨kvs3, d1, d2, d3, d4, d5⟩ := id hD3
      obtain ⟨u1, f1, f2⟩ := d3 r rk
      refine ⟨_, rfl, _, rfl, D, _, rfl, dget_in d1 f1, u1, _, rfl, SqT.of f2, rfl, _, _, rfl, _, _, rfl, rfl, ?_⟩
      refine ⟨_, rfl, rfl, _, rfl, ?_⟩
      by_cases hz : g r = 0
      · have hn0 : (g r).num = 0 := by rw [hz]; rfl
        refine iteNS (congrArg V.int hn0) ?_
        refine ⟨_, _, _, vs, rfl, sm, el, el3, hD3, ?_⟩
        rw [etake, TCR.kept_snoc, if_neg (by simpa using hz), List.append_nil]
        exact hR
      · have hn0 : (g r).num ≠ 0 := fun e => hz (Rat.num_eq_zero.mp e)
        refine iteNT (ine hn0) ?_
        refine ⟨_, rfl, .inl ⟨rfl, _, SqL.of el⟩, _, rfl, _, rfl, _, rfl, by show 3 ≤ sizeLine; decide, fun c hc => ?_⟩
        have smc := same_upd (o := parV (r, g r)) hc
        have vlen : vs.length ≤ 60 := by
          have z1 := hR.len
          have z2 := TCR.kept_len g (ns.take i)
          have z3 : (ns.take i).length ≤ ns.length := by
            rw [List.length_take]
            exact Nat.min_le_right ..
          have z4 := hperm.length_eq
          omega
        have ncl : c ≠ l := (ne_of_none el hc).symm
        refine ⟨l, _, _, rfl, rfl, smc _ _ el, small1000 (by rw [List.length_map]; omega), ?_⟩
        have hl' : ∀ x, (upd H' c (parV (r, g r))) l ≠ some (parV x) := fun x e => by
          rw [smc _ _ el] at e
          cases e
        refine ⟨_, _, _, vs ++ [c], rfl, same_at (sm.trans smc) nHl, ?_, ?_, ?_, ?_⟩
        · rw [upd_same, List.map_append]
          rfl
        · rw [upd_ne nl3.symm]
          exact smc _ _ el3
        · obtain ⟨kvs4, g1, g2, g3, g4, g5⟩ := hD3.same smc
          refine ⟨kvs4, ?_, g2, fun s hs => ?_, g4, g5⟩
          · rw [upd_ne nDl]
            exact g1
          · obtain ⟨u2, k1, k2⟩ := g3 s hs
            refine ⟨u2, k1, ?_⟩
            rw [upd_ne fun e => by
              rw [e, smc _ _ el] at k2
              cases k2]
            exact k2
        · rw [etake, TCR.kept_snoc, if_pos (by simpa using hz)]
          refine Refs.upd hl' (Refs.snoc upd_same (hR.same smc))
    · obtain ⟨w2, w3, w4, vs, rfl, sm, el, el3, hD3, hR⟩ := hP
      rw [List.length_map, List.take_length] at hR
      refine ⟨_, rfl, l, _, rfl, .inl ⟨SqL.of el, fun p hp => ?_⟩⟩
      have smp := same_upd (o := .tup (vs.map V.ref)) hp
      refine q p (TCR.kept g ns) _ (sm.trans smp) (sm.free hp) ⟨vs, upd_same, hR.same smp⟩ (TCR.canon_kept g ndn hsort) (fun r => ?_) ?_
      · rw [TCR.val_kept g r fun z => e5 r fun m => z (hperm.mem_iff.mpr m), hgv]
      · have z2 := TCR.kept_len g ns
        have z4 := hperm.length_eq
        omega
end
end TC
namespace TC
open PySem PySem.Spec PyProof.Rows L2 TCA
def Good (A : Nat) (L : List Part) : Prop := TCR.Canon L ∧ ∀ x ∈ L, TCR.Sz A x.2
theorem good_of {N : List Part} {A : Nat} (c : TCR.Canon N) (h : ∀ r, TCR.Sz A (TCR.val N r)) : Good A N := ⟨c, fun x hx => by
  rw [← c.mem hx]
  exact h _⟩
theorem Good.val {N : List Part} {A : Nat} (h : Good A N) (h0 : 0 < A) (r : Int) : TCR.Sz A (TCR.val N r) := TCR.Sz.val h0 h.2 r
theorem Good.mono {N : List Part} {A B : Nat} (h : Good A N) (l : A ≤ B) : Good B N := ⟨h.1, fun x hx => (h.2 x hx).mono l⟩
theorem Good.nil {A : Nat} : Good A [] := ⟨TCR.canon_nil, fun x hx => by cases hx⟩
theorem negL_len (L : List Part) : (TCR.negL L).length = L.length := List.length_map ..
theorem negL_snoc (L : List Part) (x : Part) : TCR.negL (L ++ [x]) = TCR.negL L ++ [(x.1, -x.2)] := List.map_append ..
section
variable {P : Program} {w : World} {K : PySem.W.Frag} {mg : Str → Option Value} {base : Heap} {f : Addr} {fd : FuncData} {C fI fQ : Addr}
/-! ### plus, minus -/
def spPlus (C : Addr) : Sp := fun vs H Q _ => ∃ (x y : Addr) (L M : List Part) (A B : Nat), vs = [.ref x, .ref y] ∧ NumAt C H x L ∧ NumAt C H y M ∧ Good A L ∧ Good B M ∧ 0 < A ∧ 0 < B ∧ A + B ≤ 7000 ∧ L.length + M.length ≤ 60 ∧
  ∀ z N H', Same H H' → H z = none → NumAt C H' z N → Good (A + B + 1) N → (∀ r, TCR.val N r = TCR.val L r + TCR.val M r) → N.length ≤ L.length + M.length → Q (.ref z) H'
theorem scPlus : FnScope ["one", "other"] ["one", "other"] (defScope sPlus) := ⟨rfl, rfl, rfl, by decide +kernel, rfl, by decide +kernel, by decide +kernel⟩
theorem ok_plus {fN fM : Addr} {fdN fdM fdI : FuncData} (F : FnP K "plus" sPlus f fd) (T : TxtN K mg C fI fQ) (GN : FnOk P w K mg base CX0 1 fN fdN ["thing"] (spNeed C)) (bN : L2.Binds K fdN ["thing"] []) (kN : PySem.W.keepIn K (.ref fN) = true) (gN : mg "need_exact" = some (.ref fN))
    (GM : FnOk P w K mg base CX0 3 fM fdM ["parts", "others"] spMerged) (bM : L2.Binds K fdM ["parts", "others"] []) (kM : PySem.W.keepIn K (.ref fM) = true) (gM : mg "merged" = some (.ref fM))
    (GI : FnOk P w K mg base CX0 1 fI fdI ["self", "parts"] (spInit C)) (bI : L2.Binds K fdI ["self", "parts"] []) : FnOk P w K mg base CX0 4 f fd ["one", "other"] (spPlus C) := by
  refine F.ok scPlus (fun vs H Q E h => ?_) (fun cdv Ar outer s H vs Q E hr h => ?_)
  · obtain ⟨x, y, L, M, A, B, rfl, _⟩ := h
    rfl
  · obtain ⟨x, y, L, M, A, B, rfl, hx, hy, gL, gMm, A0, B0, AB, len, q⟩ := h
    have hr1 := hr.mono (j := 1) (by decide)
    refine ⟨_, PSs.nox (pss_cons (ps_expr (pe_call GN hr1 (by rfl) gN kN bN .nil pass0 (pa_cons (pv 0) pa_nil)))
      (pss_cons (ps_expr (pe_call GN hr1 (by rfl) gN kN bN .nil pass0 (pa_cons (pv 1) pa_nil)))
      (pss_one (ps_ret (pe_make T.mkr GI (hr.mono (by decide)) (by rfl) T.mgC bI .nil pass0 (pa_cons (pe_call GM hr (by rfl) gM kM bM .nil pass0 (pa_cons (pe_fld (pv 0) rfl) (pa_cons (pe_fld (pv 1) rfl) pa_nil))) pa_nil)))))), ?_⟩
    refine ⟨_, rfl, x, L, rfl, hx, ?_⟩
    refine ⟨_, rfl, y, M, rfl, hy, ?_⟩
    obtain ⟨dx, p, hx1, hp⟩ := hx
    obtain ⟨dy, p', hy1, us, hp1, hp2⟩ := hy
    refine ⟨_, rfl, x, C, dx, _, _, rfl, hx1, T.cl, T.nP, rfl, _, rfl, y, C, dy, _, _, rfl, hy1, T.cl, T.nP, rfl, ?_⟩
    refine ⟨p, p', L, M, us, A, B, rfl, hp, gL.1, .inl hp1, hp2, gMm.1, gL.2, gMm.2, A0, B0, AB, len, fun r N H' sm hr' hN cN vN lN => ?_⟩
    refine made_num (C := C) hN fun z H2 sm2 hz hZ => q z N H2 (sm.trans sm2) (sm.free hz) hZ (good_of cN fun r => ?_) vN lN
    rw [vN]
    exact (gL.val A0 r).add (gMm.val B0 r)
end
end TC
namespace TC
open PySem PySem.Spec PyProof.Rows L2 TCA
/-- a dict of roots to whole tops -/
def IntD (H : Hp) (d : Addr) (ks : List Int) (t : Int → Int) : Prop := ∃ kvs, H d = some (.dK kvs) ∧ kvs.map (·.1) = ks.map (Sum.inl : Int → Key) ∧ (∀ r ∈ ks, valV kvs (Sum.inl r : Key) = some (.int (t r))) ∧ ks.Nodup ∧ ∀ r, r ∉ ks → t r = 0
theorem IntD.same {H H' : Hp} {d : Addr} {ks : List Int} {t : Int → Int} (e : Same H H') (h : IntD H d ks t) : IntD H' d ks t := by
  obtain ⟨kvs, h1, h2⟩ := h
  exact ⟨kvs, e _ _ h1, h2⟩
theorem IntD.upd {H : Hp} {d l : Addr} {o : HO} {ks : List Int} {t : Int → Int} (n : d ≠ l) (h : IntD H d ks t) : IntD (L2.upd H l o) d ks t := by
  obtain ⟨kvs, h1, h2⟩ := h
  exact ⟨kvs, by rw [upd_ne n]; exact h1, h2⟩
theorem IntD.imp {H : Hp} {d : Addr} {ks : List Int} {t t' : Int → Int} (h : IntD H d ks t) (e : ∀ r, t r = t' r) : IntD H d ks t' := by
  have : t = t' := funext e
  rw [← this]
  exact h
theorem divInt_zero (b : Int) : Rat.divInt 0 b = 0 := Rat.zero_divInt b
theorem divInt_ne {t b : Int} (hb : b ≠ 0) (ht : t ≠ 0) : Rat.divInt t b ≠ 0 := fun e => by
  rw [← divInt_zero 1, Rat.divInt_eq_divInt_iff hb (by decide)] at e
  simp at e
  exact ht e
section
variable {P : Program} {w : World} {K : PySem.W.Frag} {mg : Str → Option Value} {base : Heap} {f : Addr} {fd : FuncData} {C fI fQ : Addr}
/-! ### lowered, of many roots -/
def spLowered (C : Addr) : Sp := fun vs H Q _ => ∃ (d : Addr) (ks : List Int) (t : Int → Int) (b : Int) (A : Nat), vs = [.ref d, .int b] ∧ IntD H d ks t ∧ b ≠ 0 ∧ b.natAbs < 2 ^ A ∧ 0 < A ∧ A ≤ 8000 ∧ ks.length ≤ 900 ∧
  ∀ x N H', Same H H' → H x = none → NumAt C H' x N → TCR.Canon N → (∀ r, TCR.val N r = Rat.divInt (t r) b) → N.length ≤ ks.length → Q (.ref x) H'
theorem scLowered : FnScope ["tops", "bottom", "parts", "root", "top", "below"] ["tops", "bottom"] (defScope sLowered) := ⟨rfl, rfl, rfl, by decide +kernel, rfl, by decide +kernel, by decide +kernel⟩
theorem ok_lowered {fL : Addr} {fdL fdI : FuncData} (F : FnP K "lowered" sLowered f fd) (T : TxtN K mg C fI fQ) (GL : FnOk P w K mg base CX0 2 fL fdL ["top", "bottom"] spLowest) (bL : L2.Binds K fdL ["top", "bottom"] []) (kL : PySem.W.keepIn K (.ref fL) = true) (gL : mg "in_lowest" = some (.ref fL))
    (GI : FnOk P w K mg base CX0 1 fI fdI ["self", "parts"] (spInit C)) (bI : L2.Binds K fdI ["self", "parts"] []) (gs : mg "sorted" = none) (gl : mg "list" = none) (gt : mg "tuple" = none) : FnOk P w K mg base CX0 3 f fd ["tops", "bottom"] (spLowered C) := by
  refine F.ok scLowered (fun vs H Q E h => ?_) (fun cdv Ar outer s H vs Q E hr h => ?_)
  · obtain ⟨d, ks, t, b, A, rfl, _⟩ := h
    rfl
  · obtain ⟨d, ks, t, b, A, rfl, hd, hb, hz, A0, A8, len, q⟩ := h
    have hu := hu_of hr
    refine ⟨_, PSs.nox (pss_cons (ps_set (i := 2) scLowered.nd rfl (.inl rfl) (pe_lst pa_nil))
      (pss_cons (ps_for PassesOwn.never rfl (pi_list (pe_callB cr_sortedI (by rfl) gs (by decide +kernel) (pa_cons (pe_callTy (call_listD rfl) (by rfl) gl (by decide +kernel) (pa_cons (pv 0) pa_nil)) pa_nil))) (pg_name (i := 3) scLowered.nd rfl (.inl rfl))
        (pss_one (ps_if (pt_cmpR op_ne (pe_dget hu (pv 0) (pv 3) (fun _ _ => rfl)) pe_int (nomark _))
          (pss_cons (ps_asg (pe_call GL hr (by rfl) gL kL bL .nil pass0 (pa_cons (pe_dget hu (pv 0) (pv 3) (fun _ _ => rfl)) (pa_cons (pv 1) pa_nil))) (pg_tup rfl (pgs_cons (pg_name (i := 4) scLowered.nd rfl (.inl rfl)) (pgs_cons (pg_name (i := 5) scLowered.nd rfl (.inl rfl)) pgs_nil))))
          (pss_one (ps_expr (pe_bm PySem.F.plainAttrs_list PySem.F.slot_list_append PySem.F.type_list_append mt_append (pv 2) (pa_cons (pe_tup (pa_cons (pv 3) (pa_cons (pv 4) (pa_cons (pv 5) pa_nil)))) pa_nil))))) pss_nil)))
      (pss_one (ps_ret (pe_make T.mkr GI (hr.mono (by decide)) (by rfl) T.mgC bI .nil pass0 (pa_cons (pe_callTy call_tuple_of (by rfl) gt (by decide +kernel) (pa_cons (pv 2) pa_nil)) pa_nil)))))), ?_⟩
    refine ⟨Nat.zero_le _, fun l hl => ?_⟩
    have sm3 := same_upd (o := .lst []) hl
    obtain ⟨kvs, e1, e2, e3, e4, e5⟩ := hd.same sm3
    have elist : kvs.map (fun kv => kV kv.1) = ks.map V.int := by
      have z := congrArg (List.map kV) e2
      rw [List.map_map, List.map_map] at z
      exact z
    refine ⟨_, rfl, d, kvs, rfl, .inl e1, fun l2 hl2 => ?_⟩
    rw [elist]
    have sm4 := same_upd (o := .lst (ks.map V.int)) hl2
    refine ⟨l2, ks, rfl, SqL.of upd_same, fun ns l3 hperm hsort hl3 => ?_⟩
    have sm5 := same_upd (o := .lst (ns.map V.int)) hl3
    have ndn : ns.Nodup := hperm.nodup_iff.mpr e4
    have nl3 : l ≠ l3 := ne_of_none (sm4 l _ (upd_same (H := H))) hl3
    have ndl : d ≠ l := by
      obtain ⟨_, z, _⟩ := hd
      exact ne_of_none z hl
    have smA := sm3.trans (sm4.trans sm5)
    refine ⟨l3, rfl, ⟨_, SqL.of upd_same⟩, for_list (xs := ns.map V.int) (fun i σ H' => ∃ (w3 w4 w5 : Option V) (vs : List Addr), σ = [some (.ref d), some (.int b), some (.ref l), w3, w4, w5] ∧ Same H H' ∧ H' l = some (.lst (vs.map V.ref)) ∧ H' l3 = some (.lst (ns.map V.int)) ∧ IntD H' d ks t ∧ Refs H' vs (TCR.kept (fun r => Rat.divInt (t r) b) (ns.take i)))
      ⟨none, none, none, [], rfl, smA, sm5 _ _ (sm4 _ _ upd_same), upd_same, hd.same smA, trivial⟩ (fun i σ H' _ hP => ?_) (fun i x σ H' hx hP => ?_) (fun σ H' hP => ?_)⟩
    · obtain ⟨_, _, _, _, _, _, _, z, _⟩ := hP
      exact SqL.of z
    · obtain ⟨w3, w4, w5, vs, rfl, sm, el, el3, hD3, hR⟩ := hP
      rw [List.getElem?_map] at hx
      obtain ⟨r, hr', rfl⟩ : ∃ r, ns[i]? = some r ∧ V.int r = x := by
        cases e : ns[i]? with
        | none =>
          rw [e] at hx
          cases hx
        | some p =>
          rw [e] at hx
          exact ⟨p, rfl, Option.some.inj hx⟩
      have rk : r ∈ ks := hperm.mem_iff.mp (List.mem_of_getElem? hr')
      have etake : ns.take (i + 1) = ns.take i ++ [r] := by
        rw [List.take_add_one, hr']
        rfl
      obtain ⟨kvs3, d1, d2, d3, d4, d5⟩ := id hD3
      have dg := dget_in d1 (d3 r rk)
      refine ⟨_, rfl, _, rfl, d, _, rfl, dg, rfl, _, rfl, ?_⟩
      by_cases ht : t r = 0
      · refine iteNS (congrArg V.int ht) ?_
        refine ⟨_, _, _, vs, rfl, sm, el, el3, hD3, ?_⟩
        rw [etake, TCR.kept_snoc, if_neg (by rw [ht, divInt_zero]; simp), List.append_nil]
        exact hR
      · refine iteNT (ine ht) ?_
        refine ⟨_, rfl, _, rfl, d, _, rfl, dg, _, rfl, t r, b, A, rfl, hb, hz, A0, A8, fun c hc => ?_⟩
        refine ⟨c, _, rfl, SqT.of upd_same, rfl, _, _, rfl, _, _, rfl, rfl, ?_⟩
        have smc : Same H' (upd H' c (.tup [.int (TCM.low (t r) b).1, .int (TCM.low (t r) b).2])) := same_upd hc
        refine ⟨_, rfl, .inl ⟨rfl, _, SqL.of (smc _ _ el)⟩, _, rfl, _, rfl, _, rfl, by show 3 ≤ sizeLine; decide, fun u hu2 => ?_⟩
        have epar : HO.tup [.int r, .int (TCM.low (t r) b).1, .int (TCM.low (t r) b).2] = parV (r, Rat.divInt (t r) b) := by
          rw [TCR.low_rat (t r) b hb]
          rfl
        rw [epar]
        have smu := same_upd (o := parV (r, Rat.divInt (t r) b)) hu2
        have vlen : vs.length ≤ 900 := by
          have z1 := hR.len
          have z2 := TCR.kept_len (fun r => Rat.divInt (t r) b) (ns.take i)
          have z3 : (ns.take i).length ≤ ns.length := by
            rw [List.length_take]
            exact Nat.min_le_right ..
          have z4 := hperm.length_eq
          omega
        have elu := smu _ _ (smc _ _ el)
        refine ⟨l, _, _, rfl, rfl, elu, small1000 (by rw [List.length_map]; omega), ?_⟩
        have hl' : ∀ x, (upd (upd H' c (.tup [.int (TCM.low (t r) b).1, .int (TCM.low (t r) b).2])) u (parV (r, Rat.divInt (t r) b))) l ≠ some (parV x) := fun x e => by
          rw [elu] at e
          cases e
        refine ⟨_, _, _, vs ++ [u], rfl, same_at ((sm.trans smc).trans smu) hl, ?_, ?_, ((hD3.same smc).same smu).upd ndl, ?_⟩
        · rw [upd_same, List.map_append]
          rfl
        · rw [upd_ne nl3.symm]
          exact smu _ _ (smc _ _ el3)
        · rw [etake, TCR.kept_snoc, if_pos (divInt_ne hb ht)]
          exact Refs.upd hl' (Refs.snoc upd_same ((hR.same smc).same smu))
    · obtain ⟨w3, w4, w5, vs, rfl, sm, el, el3, hD3, hR⟩ := hP
      rw [List.length_map, List.take_length] at hR
      refine ⟨_, rfl, l, _, rfl, .inl ⟨SqL.of el, fun p hp => ?_⟩⟩
      have smp := same_upd (o := .tup (vs.map V.ref)) hp
      refine made_num (C := C) (L := TCR.kept (fun r => Rat.divInt (t r) b) ns) ⟨vs, upd_same, hR.same smp⟩ fun x H2 sm2 hx hN => q x _ H2 ((sm.trans smp).trans sm2) ((sm.trans smp).free hx) hN (TCR.canon_kept _ ndn hsort) (fun r => ?_) ?_
      · refine TCR.val_kept (fun r => Rat.divInt (t r) b) r fun z => ?_
        show Rat.divInt (t r) b = 0
        rw [e5 r fun m => z (hperm.mem_iff.mpr m), divInt_zero]
      · have z2 := TCR.kept_len (fun r => Rat.divInt (t r) b) ns
        have z4 := hperm.length_eq
        omega
end
end TC
namespace TC
open PySem PySem.Spec PyProof.Rows L2 TCA
def setI (t : Int → Int) (r z : Int) : Int → Int := fun s => if s = r then z else t s
theorem putI_ok {H : Hp} {d : Addr} {kvs : List (Key × V)} {ks : List Int} {t : Int → Int} {r z : Int} (ek : kvs.map (·.1) = ks.map (Sum.inl : Int → Key))
    (hv : ∀ r ∈ ks, valV kvs (Sum.inl r : Key) = some (.int (t r))) (nd : ks.Nodup) (out : ∀ r, r ∉ ks → t r = 0) :
    IntD (upd H d (.dK (putK kvs (Sum.inl r : Key) (.int z)))) d (addKey ks r) (setI t r z) := by
  refine ⟨_, upd_same, keys_put ek, fun s hs => ?_, nd_addKey nd, fun s hs => ?_⟩
  · rw [valV_put]
    by_cases es : s = r
    · rw [es, if_pos rfl]
      show some (V.int z) = some (V.int (if r = r then z else t r))
      rw [if_pos rfl]
    · have hs' : s ∈ ks := (mem_addKey.mp hs).resolve_right es
      rw [if_neg (inl_ne es), hv s hs']
      show _ = some (V.int (if s = r then z else t s))
      rw [if_neg es]
  · have h1 : s ∉ ks := fun z => hs (mem_addKey.mpr (.inl z))
    have h2 : s ≠ r := fun z => hs (mem_addKey.mpr (.inr z))
    show (if s = r then z else t s) = 0
    rw [if_neg h2, out s h1]
/-- the tops over one bottom -/
def topsOf (L : List Part) (c : Nat) (r : Int) : Int := (TCR.val L r).num * ((c / (TCR.val L r).den : Nat) : Int)
theorem topsOf_div {L : List Part} {c : Nat} (hc : 0 < c) (r : Int) (h : (TCR.val L r).den ∣ c) : Rat.divInt (topsOf L c r) (c : Int) = TCR.val L r := by
  have dp := (TCR.val L r).den_pos
  have d0 : ((TCR.val L r).den : Int) ≠ 0 := by omega
  have c0 : ((c : Nat) : Int) ≠ 0 := by omega
  have e : Rat.divInt (topsOf L c r) (c : Int) = Rat.divInt (TCR.val L r).num ((TCR.val L r).den : Int) := by
    rw [Rat.divInt_eq_divInt_iff c0 d0]
    unfold topsOf
    rw [Int.mul_assoc]
    congr 1
    rw [← Int.natCast_mul, Nat.div_mul_cancel h]
  rw [e, Rat.num_divInt_den]
theorem den_val {L : List Part} {D : Nat} (h : ∀ x ∈ L, x.2.den ∣ D) (c : TCR.Canon L) (r : Int) : (TCR.val L r).den ∣ D := by
  rcases Classical.em (∃ q, (r, q) ∈ L) with ⟨q, z⟩ | z
  · rw [c.mem z]
    exact h _ z
  · rw [TCR.val_not fun x hx e => z ⟨x.2, by rw [← e]; exact hx⟩]
    exact Nat.one_dvd _
section
variable {P : Program} {w : World} {K : PySem.W.Frag} {mg : Str → Option Value} {base : Heap} {f : Addr} {fd : FuncData} {C fI fQ : Addr}
/-! ### on_one_bottom -/
def spOneB : Sp := fun vs H Q _ => ∃ (p : Addr) (L : List Part) (D A B : Nat), vs = [.ref p] ∧ PartsL H p L ∧ TCR.Canon L ∧ (∀ x ∈ L, x.2.den ∣ D) ∧ 0 < D ∧ D < 2 ^ B ∧ 0 < B ∧ B ≤ 8000 ∧ (∀ x ∈ L, x.2.num.natAbs < 2 ^ A) ∧ 0 < A ∧ A ≤ 20000 ∧ L.length ≤ 60 ∧
  ∀ (v d : Addr) (c : Nat) H', Same H H' → H v = none → H' v = some (.tup [.ref d, .int (c : Int)]) → H d = none → IntD H' d (L.map (·.1)) (topsOf L c) → 0 < c → c ∣ D → (∀ x ∈ L, x.2.den ∣ c) → Q (.ref v) H'
theorem scOneB : FnScope ["parts", "common", "root", "top", "bottom"] ["parts"] (defScope sOneBottom) := ⟨rfl, rfl, rfl, by decide +kernel, rfl, by decide +kernel, by decide +kernel⟩
theorem ok_oneB {fS : Addr} {fdS : FuncData} (F : FnP K "on_one_bottom" sOneBottom f fd) (GS : FnOk P w K mg base CX0 1 fS fdS ["one", "other"] spShared) (bS : L2.Binds K fdS ["one", "other"] []) (kS : PySem.W.keepIn K (.ref fS) = true) (gS : mg "shared" = some (.ref fS)) :
    FnOk P w K mg base CX0 2 f fd ["parts"] spOneB := by
  refine F.ok scOneB (fun vs H Q E h => ?_) (fun cdv Ar outer s H vs Q E hr h => ?_)
  · obtain ⟨p, L, D, A, B, rfl, _⟩ := h
    rfl
  · obtain ⟨p, L, D, A, B, rfl, ⟨us, hp, hL⟩, cL, dD, D0, DB, B0, B8, zA, A0, A2, len, q⟩ := h
    have hu := hu_of hr
    refine ⟨_, PSs.nox (pss_cons (ps_set (i := 1) scOneB.nd rfl (.inr rfl) pe_int)
      (pss_cons (ps_for PassesOwn.never rfl (pi_tup (pv 0)) (pg_tup rfl (pgs_cons (pg_name (i := 2) scOneB.nd rfl (.inl rfl)) (pgs_cons (pg_name (i := 3) scOneB.nd rfl (.inl rfl)) (pgs_cons (pg_name (i := 4) scOneB.nd rfl (.inl rfl)) pgs_nil))))
        (pss_one (ps_set (i := 1) scOneB.nd rfl (.inr rfl) (pe_op op_mulW (pe_op op_fdivNW (pv 1) (pe_call GS hr (by rfl) gS kS bS .nil pass0 (pa_cons (pv 1) (pa_cons (pv 4) pa_nil)))) (pv 4)))))
      (pss_one (ps_ret (pe_tup (pa_cons (pe_dc (own := [("root", 2), ("top", 3), ("bottom", 4)]) (g := gTup K 3 (gCons (gName 2) (gCons (gName 3) (gCons (gName 4) gNil)))) (tt := tYes) (tk := tVar 2) (tv := tOp (rI CMulW fun i j => .int (i * j)) (tVar 3) (tOp (rI CDivNW fun i j => .int (i.fdiv j)) (tVar 1) (tVar 4))) rfl scOneB.nd (pi_tup (pv 0))
          (blkOk_by (N := ["parts", "common", "root", "top", "bottom"]) (sc := defScope sOneBottom) (by decide +kernel))
          (fun _ _ _ _ _ => pg_tup rfl (pgs_cons (pg_name (i := 2) scOneB.nd rfl (.inl rfl)) (pgs_cons (pg_name (i := 3) scOneB.nd rfl (.inl rfl)) (pgs_cons (pg_name (i := 4) scOneB.nd rfl (.inl rfl)) pgs_nil)))) (fun _ _ _ _ _ => pts_nil) (fun _ _ _ _ _ => pv 2) (fun _ _ _ _ _ => pe_op op_mulW (pv 3) (pe_op op_fdivNW (pv 1) (pv 4))))
          (pa_cons (pv 1) pa_nil))))))), ?_⟩
    refine ⟨_, rfl, p, rfl, ⟨_, SqT.of hp⟩, for_tup (xs := us.map V.ref) (fun i σ H' => ∃ (v2 v3 v4 : Option V) (c : Nat), σ = [some (.ref p), some (.int (c : Int)), v2, v3, v4] ∧ H' = H ∧ 0 < c ∧ (∀ x ∈ L.take i, x.2.den ∣ c) ∧ (∀ E, (∀ x ∈ L.take i, x.2.den ∣ E) → c ∣ E))
      ⟨none, none, none, 1, rfl, rfl, by decide, (fun x hx => by simp at hx), fun E _ => Nat.one_dvd E⟩ (fun i σ H' _ hP => ?_) (fun i x σ H' hx hP => ?_) (fun σ H' hP => ?_)⟩
    · obtain ⟨_, _, _, _, _, rfl, _⟩ := hP
      exact SqT.of hp
    · obtain ⟨v2, v3, v4, c, rfl, rfl, c0, cd, cm⟩ := hP
      obtain ⟨u, y, rfl, hu', hy, hyv⟩ := hL.get hx
      have hyL : y ∈ L := List.mem_of_getElem? hy
      have et : L.take (i + 1) = L.take i ++ [y] := by
        rw [List.take_add_one, hy]
        rfl
      have cD : c ∣ D := cm D fun x hx => dD x (List.mem_of_mem_take hx)
      have cB : c < 2 ^ B := Nat.lt_of_le_of_lt (Nat.le_of_dvd D0 cD) DB
      have yB : y.2.den < 2 ^ B := Nat.lt_of_le_of_lt (Nat.le_of_dvd D0 (dD y hyL)) DB
      have dp := y.2.den_pos
      have gp : 0 < Nat.gcd c y.2.den := Nat.gcd_pos_of_pos_left _ c0
      have gB : Nat.gcd c y.2.den < 2 ^ B := Nat.lt_of_le_of_lt (Nat.le_of_dvd c0 (Nat.gcd_dvd_left ..)) cB
      have eg : Int.gcd (c : Int) (y.2.den : Int) = Nat.gcd c y.2.den := by
        rw [Int.gcd_natCast_natCast]
      have el : c / Nat.gcd c y.2.den * y.2.den = Nat.lcm c y.2.den := by
        rw [Nat.lcm, Nat.div_mul_right_comm (Nat.gcd_dvd_left ..)]
      refine ⟨u, _, rfl, SqT.of hyv, rfl, _, _, rfl, _, _, rfl, _, _, rfl, rfl, ?_⟩
      refine ⟨_, rfl, _, rfl, _, rfl, (c : Int), (y.2.den : Int), rfl, ?_⟩
      rw [eg]
      refine ⟨(c : Int), ((Nat.gcd c y.2.den : Nat) : Int), rfl, rfl, cdivn gp gB B0 B8, _, rfl, _, (y.2.den : Int), rfl, rfl, ?_, ?_⟩
      · show CMulW ((c : Int).fdiv ((Nat.gcd c y.2.den : Nat) : Int)) (y.2.den : Int)
        rw [fdiv_nat]
        exact cmulw (A := B) (B := B) (by rw [Int.natAbs_natCast]; exact Nat.lt_of_le_of_lt (Nat.div_le_self ..) cB) (by rw [Int.natAbs_natCast]; exact yB) B0 B0 (by omega)
      · refine ⟨some (.int y.1), some (.int y.2.num), some (.int (y.2.den : Int)), Nat.lcm c y.2.den, ?_, rfl, Nat.pos_of_ne_zero (fun z => ?_), fun x hx => ?_, fun E hE => ?_⟩
        · show [some (V.ref p), some (V.int ((c : Int).fdiv ((Nat.gcd c y.2.den : Nat) : Int) * (y.2.den : Int))), some (V.int y.1), some (V.int y.2.num), some (V.int (y.2.den : Int))] = _
          rw [fdiv_nat, ← Int.natCast_mul, el]
        · rcases Nat.lcm_eq_zero_iff.mp z with z | z <;> omega
        · rw [et] at hx
          rcases List.mem_append.mp hx with z | z
          · exact Nat.dvd_trans (cd x z) (Nat.dvd_lcm_left ..)
          · rw [List.mem_singleton.mp z]
            exact Nat.dvd_lcm_right ..
        · rw [et] at hE
          exact Nat.lcm_dvd (cm E fun x hx => hE x (List.mem_append_left _ hx)) (hE y (List.mem_append_right _ (List.mem_singleton.mpr rfl)))
    · obtain ⟨v2, v3, v4, c, rfl, rfl, c0, cd, cm⟩ := hP
      rw [List.length_map, hL.len, List.take_length] at cd cm
      have cD : c ∣ D := cm D dD
      have cB : c < 2 ^ B := Nat.lt_of_le_of_lt (Nat.le_of_dvd D0 cD) DB
      refine ⟨_, rfl, p, rfl, ⟨_, SqT.of hp⟩, fun d hd => dc_tup (xs := us.map V.ref) (fun i H2 => Same H' H2 ∧ IntD H2 d ((L.take i).map (·.1)) (topsOf (L.take i) c)) ?_ (fun i H2 _ hP => SqT.of (hP.1 _ _ hp)) (fun i x H2 hx hP => ?_) (fun H2 hP => ?_)⟩
      · exact ⟨same_upd hd, [], upd_same, rfl, (fun r hr => by cases hr), List.nodup_nil, fun r _ => by unfold topsOf; exact Int.zero_mul _⟩
      · obtain ⟨sm, kvs, e1, e2, e3, e4, e5⟩ := hP
        obtain ⟨u, y, rfl, hu', hy, hyv⟩ := (hL.same sm).get hx
        have hyL : y ∈ L := List.mem_of_getElem? hy
        have il : i < L.length := (List.getElem?_eq_some_iff.mp hy).1
        have et : L.take (i + 1) = L.take i ++ [y] := by
          rw [List.take_add_one, hy]
          rfl
        have dp := y.2.den_pos
        have yB : y.2.den < 2 ^ B := Nat.lt_of_le_of_lt (Nat.le_of_dvd D0 (dD y hyL)) DB
        have t0 := (TCR.val_take cL y.1 hy).1
        have t1 := fun s => (TCR.val_take cL s hy).2
        have nin : y.1 ∉ (L.take i).map (·.1) := fun m => by
          obtain ⟨z, hz, ez⟩ := List.mem_map.mp m
          have cT : TCR.Canon (L.take i) := ⟨cL.srt.sublist (List.take_sublist ..), fun x hx => cL.nz x (List.mem_of_mem_take hx)⟩
          have := cT.mem hz
          rw [ez, t0] at this
          exact cT.nz z hz this.symm
        refine ⟨u, _, rfl, SqT.of hyv, rfl, _, _, rfl, _, _, rfl, _, _, rfl, rfl, rfl, ?_⟩
        refine ⟨_, rfl, _, rfl, _, rfl, _, rfl, (c : Int), (y.2.den : Int), rfl, rfl, cdivn dp yB B0 B8, y.2.num, _, rfl, rfl, ?_, ?_⟩
        · show CMulW y.2.num ((c : Int).fdiv (y.2.den : Int))
          rw [fdiv_nat]
          exact cmulw (A := A) (B := B) (zA y hyL) (by rw [Int.natAbs_natCast]; exact Nat.lt_of_le_of_lt (Nat.div_le_self ..) cB) A0 B0 (by omega)
        · refine ⟨kvs, Sum.inl y.1, rfl, e1, small1000 (by rw [len_keys e2, List.length_map, List.length_take]; omega), same_at sm hd, ?_⟩
          show IntD (upd H2 d (.dK (putK kvs (Sum.inl y.1) (.int (y.2.num * (c : Int).fdiv (y.2.den : Int)))))) d _ _
          rw [fdiv_nat]
          have z := putI_ok (H := H2) (d := d) (r := y.1) (z := y.2.num * ((c / y.2.den : Nat) : Int)) e2 e3 e4 e5
          have ek : addKey ((L.take i).map (·.1)) y.1 = (L.take (i + 1)).map (·.1) := by
            unfold addKey
            rw [if_neg nin, et, List.map_append]
            rfl
          rw [ek] at z
          refine z.imp fun s => ?_
          unfold setI topsOf
          rw [t1 s]
          by_cases es : s = y.1
          · rw [if_pos es, if_pos es]
          · rw [if_neg es, if_neg es]
      · obtain ⟨sm, hI⟩ := hP
        rw [List.length_map, hL.len, List.take_length] at hI
        refine ⟨_, rfl, by show 2 ≤ sizeLine; decide, fun v hv => ?_⟩
        have sv := same_upd (o := .tup [.ref d, .int (c : Int)]) hv
        exact q v d c _ (sm.trans sv) (sm.free hv) upd_same hd (hI.same sv) c0 cD cd
end
end TC
namespace TC
open PySem PySem.Spec PyProof.Rows L2 TCA
theorem dget_rd {H : Hp} {d : Addr} {kvs : List (Key × V)} {r : Int} {v : V} (e : Rd H d (.dK kvs)) (h : valV kvs (Sum.inl r : Key) = some v) : DGet H d (.int r) (some v) := by
  have z : DGet H d (kV (Sum.inl r : Key)) (valV kvs (Sum.inl r : Key)) := .inl ⟨kvs, Sum.inl r, e, rfl, rfl⟩
  rw [h] at z
  exact z
theorem key_at {kvs : List (Key × V)} {ks : List Int} {i : Nat} {k : Key} {v : V} (e : kvs.map (·.1) = ks.map (Sum.inl : Int → Key)) (h : kvs[i]? = some (k, v)) : ∃ r, ks[i]? = some r ∧ k = Sum.inl r := by
  have z : (kvs.map (·.1))[i]? = some k := by
    rw [List.getElem?_map, h]
    rfl
  rw [e, List.getElem?_map] at z
  cases q : ks[i]? with
  | none =>
    rw [q] at z
    cases z
  | some r =>
    rw [q] at z
    exact ⟨r, rfl, (Option.some.inj z).symm⟩
theorem valV_drop {kvs : List (Key × V)} {k j : Key} : valV (dropK kvs k) j = if j = k then none else valV kvs j := by
  induction kvs with
  | nil => simp [dropK, valV]
  | cons p r ih =>
    by_cases e : p.1 = k
    · rw [dropK_pos e, ih]
      by_cases ej : j = k
      · rw [if_pos ej, if_pos ej]
      · rw [if_neg ej, if_neg ej, valV_neg (p := p) fun z => ej (z.symm.trans e)]
    · rw [dropK_neg e]
      by_cases ep : p.1 = j
      · rw [valV_pos ep, valV_pos ep, if_neg fun z => e (ep.trans z)]
      · rw [valV_neg ep, valV_neg ep, ih]
theorem keys_drop {kvs : List (Key × V)} {ks : List Int} {r : Int} (e : kvs.map (·.1) = ks.map (Sum.inl : Int → Key)) : (dropK kvs (Sum.inl r : Key)).map (·.1) = (ks.filter fun s => decide (s ≠ r)).map (Sum.inl : Int → Key) := by
  induction kvs generalizing ks with
  | nil =>
    cases ks with
    | nil => rfl
    | cons a ks => cases e
  | cons p kvs ih =>
    cases ks with
    | nil => cases e
    | cons a ks =>
      have e1 : p.1 = Sum.inl a := (List.cons.inj e).1
      have e2 : kvs.map (·.1) = ks.map (Sum.inl : Int → Key) := (List.cons.inj e).2
      by_cases h : a = r
      · rw [dropK_pos (by rw [e1, h]), List.filter_cons, if_neg (by simp [h])]
        exact ih e2
      · rw [dropK_neg (by rw [e1]; exact inl_ne h), List.filter_cons, if_pos (by simp [h]), List.map_cons, List.map_cons, ih e2, e1]
theorem mem_take_succ {ks : List Int} {i : Nat} {r s : Int} (h : ks[i]? = some r) : s ∈ ks.take (i + 1) ↔ s ∈ ks.take i ∨ s = r := by
  rw [List.take_add_one, h]
  simp
theorem mem_drop_of {ks : List Int} {i : Nat} {r : Int} (h : ks[i]? = some r) : ks.drop i = r :: ks.drop (i + 1) := by
  obtain ⟨hl, e⟩ := List.getElem?_eq_some_iff.mp h
  rw [List.drop_eq_getElem_cons hl, e]
theorem nd_not_take {ks : List Int} (nd : ks.Nodup) {i : Nat} {r : Int} (h : ks[i]? = some r) : r ∉ ks.take i := fun m => by
  obtain ⟨j, hj, e⟩ := List.mem_iff_getElem.mp m
  rw [List.length_take] at hj
  rw [List.getElem_take] at e
  obtain ⟨hl, e2⟩ := List.getElem?_eq_some_iff.mp h
  have := (List.getElem_inj nd (h₀ := by omega) (h₁ := hl)).mp (e.trans e2.symm)
  omega
def Clear (ks : List Int) (g : Int → Rat) : Prop := ∀ r ∈ ks, g r ≠ 0
section
variable {P : Program} {w : World} {K : PySem.W.Frag} {mg : Str → Option Value} {base : Heap} {f : Addr} {fd : FuncData} {C fI fQ : Addr}
/-! ### _law_cleared -/
def spCleared : Sp := fun vs H Q _ => ∃ (d : Addr) (ks : List Int) (g : Int → Rat), vs = [.ref d] ∧ DictAt H d ks g ∧ ks.length ≤ 900 ∧
  ∀ d' ks' H', Same H H' → H d' = none → DictAt H' d' ks' g → Clear ks' g → ks'.length ≤ ks.length → (∀ r ∈ ks', r ∈ ks) → Q (.ref d') H'
theorem scCleared : FnScope ["_law_some", "_law_found", "_law_r"] ["_law_some"] (defScope sCleared) := ⟨rfl, rfl, rfl, by decide +kernel, rfl, by decide +kernel, by decide +kernel⟩
theorem ok_cleared (F : FnP K "_law_cleared" sCleared f fd) (gd : mg "dict" = none) : FnOk P w K mg base CX0 1 f fd ["_law_some"] spCleared := by
  refine F.ok scCleared (fun vs H Q E h => ?_) (fun cdv Ar outer s H vs Q E hr h => ?_)
  · obtain ⟨d, ks, g, rfl, _⟩ := h
    rfl
  · obtain ⟨d, ks, g, rfl, hd, len, q⟩ := h
    have hu := hu_of hr
    refine ⟨_, PSs.nox (pss_cons (ps_set (i := 1) scCleared.nd rfl (.inl rfl) (pe_callTy call_dictD (by rfl) gd (by decide +kernel) (pa_cons (pv 0) pa_nil)))
      (pss_cons (ps_lock (ps_for PassesOwn.never rfl (pi_keys (pv 0)) (pg_name (i := 2) scCleared.nd rfl (.inl rfl))
        (pss_one (ps_if (pt_cmpR op_eq (pe_ix ix_tup (pe_dget hu (pv 0) (pv 2) (fun _ _ => rfl)) pe_int (fun _ _ => rfl)) pe_int (nomark _))
          (pss_one (ps_expr (pe_dpop1 (pv 1) (pv 2) ⟨rfl, rfl, rfl, rfl⟩))) pss_nil))))
      (pss_one (ps_ret (pv 1))))), ?_⟩
    obtain ⟨kvs, e1, e2, e3, e4, e5⟩ := id hd
    refine ⟨_, rfl, d, kvs, rfl, .inl e1, fun p hp => ?_⟩
    have smp := same_upd (o := .dK kvs) hp
    have npd : p ≠ d := (ne_of_none e1 hp).symm
    refine ⟨d, .dK kvs, smp _ _ e1, trivial, fun od => ?_⟩
    refine ⟨_, rfl, d, od, rfl, .inl ⟨kvs, upd_same, ?_⟩⟩
    -- u's are none of d, p
    have nud : ∀ {u : Addr} {q : Rat}, H u = some (fraV q) → u ≠ d := fun {u q} hu z => by
      rw [z, e1] at hu
      cases hu
    refine for_it (walk_keys (d := d) (o := od) (kvs := kvs)) (fun i σ H' => ∃ (v2 : Option V) (ks' : List Int), σ = [some (.ref d), some (.ref p), v2] ∧ H' d = some (.frz od (.dK kvs)) ∧ (∀ b o, H b = some o → b ≠ d → H' b = some o) ∧ DictAt H' p ks' g ∧ ks'.length ≤ ks.length ∧ (∀ r ∈ ks', r ∈ ks) ∧ (∀ r ∈ ks.drop i, r ∈ ks') ∧ ∀ r ∈ ks.take i, r ∈ ks' → g r ≠ 0)
      ⟨none, ks, rfl, upd_same, fun b o e hb => by rw [upd_ne hb]; exact smp _ _ e, ?_, Nat.le_refl _, fun r hr => hr, fun r hr => hr, (fun r hr => by simp at hr)⟩ (fun i σ H' _ hP => ?_) (fun i x σ H' H2 hi hP hy => ?_) (fun σ H' hP => ?_)
    · refine ⟨kvs, by rw [upd_ne npd, upd_same], e2, fun r hr => ?_, e4, e5⟩
      obtain ⟨u, a, b⟩ := e3 r hr
      exact ⟨u, a, by rw [upd_ne (nud b)]; exact smp _ _ b⟩
    · obtain ⟨_, _, _, z, _⟩ := hP
      exact z
    · obtain ⟨rfl, k, v, hkv, rfl⟩ := hy
      obtain ⟨v2, ks', rfl, hfz, keep, hp', l', sub, dr, tk⟩ := hP
      obtain ⟨r, hr', rfl⟩ := key_at e2 hkv
      have rk : r ∈ ks := List.mem_of_getElem? hr'
      obtain ⟨u, a, b⟩ := e3 r rk
      have bu := keep _ _ b (nud b)
      have edr := mem_drop_of hr'
      have rk' : r ∈ ks' := dr r (by rw [edr]; exact List.mem_cons_self ..)
      refine ⟨_, rfl, _, rfl, d, _, rfl, dget_rd (.inr ⟨od, hfz⟩) a, u, _, 0, _, rfl, rfl, SqT.of bu, atI_nat (j := 0) rfl, rfl, _, rfl, ?_⟩
      by_cases hz : g r = 0
      · have hn0 : (g r).num = 0 := by rw [hz]; rfl
        refine iteD1 (congrArg V.int hn0) ?_
        obtain ⟨kv2, f1, f2, f3, f4, f5⟩ := id hp'
        obtain ⟨u2, c1, c2⟩ := f3 r rk'
        refine ⟨_, rfl, p, rfl, .inl ⟨_, .inl f1⟩, _, rfl, kv2, Sum.inl r, _, f1, rfl, c1, ?_⟩
        have nup : ∀ {u : Addr} {q : Rat}, H2 u = some (fraV q) → u ≠ p := fun {u q} hu z => by
          rw [z, f1] at hu
          cases hu
        refine ⟨_, ks'.filter (fun s => decide (s ≠ r)), rfl, by rw [upd_ne npd.symm]; exact hfz, fun b o e hb => ?_, ?_, Nat.le_trans (List.length_filter_le ..) l', fun s hs => sub s (List.mem_filter.mp hs).1, fun s hs => ?_, fun s hs hs' => ?_⟩
        · rw [upd_ne (ne_of_none e hp)]
          exact keep b o e hb
        · refine ⟨_, upd_same, keys_drop f2, fun s hs => ?_, f4.filter _, fun s hs => ?_⟩
          · obtain ⟨hs1, hs2⟩ := List.mem_filter.mp hs
            have sr : s ≠ r := of_decide_eq_true hs2
            obtain ⟨u3, g1, g2⟩ := f3 s hs1
            refine ⟨u3, ?_, by rw [upd_ne (nup g2)]; exact g2⟩
            rw [valV_drop, if_neg (inl_ne sr)]
            exact g1
          · by_cases sr : s = r
            · rw [sr]
              exact hz
            · exact f5 s fun m => hs (List.mem_filter.mpr ⟨m, decide_eq_true sr⟩)
        · have s1 : s ∈ ks.drop i := by
            rw [edr]
            exact List.mem_cons_of_mem _ hs
          refine List.mem_filter.mpr ⟨dr s s1, decide_eq_true fun e => ?_⟩
          have nd2 : (r :: ks.drop (i + 1)).Nodup := by
            rw [← edr]
            exact e4.sublist (List.drop_sublist ..)
          exact (List.nodup_cons.mp nd2).1 (e ▸ hs)
        · obtain ⟨hs1, hs2⟩ := List.mem_filter.mp hs'
          rcases (mem_take_succ hr').mp hs with m | m
          · exact tk s m hs1
          · exact absurd m (of_decide_eq_true hs2)
      · have hn0 : (g r).num ≠ 0 := fun e => hz (Rat.num_eq_zero.mp e)
        refine iteD0 (ine hn0) ?_
        refine ⟨_, ks', rfl, hfz, keep, hp', l', sub, fun s hs => dr s (by rw [edr]; exact List.mem_cons_of_mem _ hs), fun s hs hs' => ?_⟩
        rcases (mem_take_succ hr').mp hs with m | m
        · exact tk s m hs'
        · rw [m]
          exact hz
    · obtain ⟨v2, ks', rfl, hfz, keep, hp', l', sub, dr, tk⟩ := hP
      refine ⟨hfz, _, rfl, ?_⟩
      have lk := len_keys e2
      have smf : Same H (upd H' d (.dK kvs)) := fun b o e => by
        by_cases hb : b = d
        · rw [hb, upd_same]
          rw [hb, e1] at e
          exact e
        · rw [upd_ne hb]
          exact keep b o e hb
      refine q p ks' _ smf hp ?_ (fun r hr => ?_) l' sub
      · obtain ⟨kv2, f1, f2, f3, f4, f5⟩ := hp'
        refine ⟨kv2, by rw [upd_ne npd]; exact f1, f2, fun r hr => ?_, f4, f5⟩
        obtain ⟨u2, c1, c2⟩ := f3 r hr
        refine ⟨u2, c1, ?_⟩
        rw [upd_ne fun z => by
          rw [z, hfz] at c2
          cases c2]
        exact c2
      · refine tk r ?_ hr
        rw [lk, List.take_length]
        exact sub r hr
end
end TC
namespace TC
open PySem PySem.Spec PyProof.Rows L2 TCA
/-! ### sums over pairs of roots -/
def sumI : List Int → Int
  | [] => 0
  | a :: l => a + sumI l
theorem sumI_append : ∀ (l m : List Int), sumI (l ++ m) = sumI l + sumI m
  | [], m => by show sumI m = 0 + sumI m; omega
  | a :: l, m => by
    show a + sumI (l ++ m) = a + sumI l + sumI m
    rw [sumI_append l m]
    omega
def gR (r s : Int) : Int := ((Int.gcd r s : Nat) : Int)
def mulR (r s : Int) : Int := r.fdiv (gR r s) * s.fdiv (gR r s)
def rowI (r z : Int) (k2 : List Int) (t2 : Int → Int) (u : Int) : Int := sumI (k2.map fun s => if mulR r s = u then z * t2 s * gR r s else 0)
def prodI (k1 k2 : List Int) (t1 t2 : Int → Int) (u : Int) : Int := sumI (k1.map fun r => rowI r (t1 r) k2 t2 u)
theorem rowI_succ {r z : Int} {k2 : List Int} {t2 : Int → Int} {j : Nat} {s : Int} (h : k2[j]? = some s) (u : Int) : rowI r z (k2.take (j + 1)) t2 u = rowI r z (k2.take j) t2 u + if mulR r s = u then z * t2 s * gR r s else 0 := by
  unfold rowI
  rw [List.take_add_one, h, List.map_append, sumI_append]
  show _ + (_ + 0) = _
  rw [Int.add_zero]
theorem prodI_succ {k1 k2 : List Int} {t1 t2 : Int → Int} {i : Nat} {r : Int} (h : k1[i]? = some r) (u : Int) : prodI (k1.take (i + 1)) k2 t1 t2 u = prodI (k1.take i) k2 t1 t2 u + rowI r (t1 r) k2 t2 u := by
  unfold prodI
  rw [List.take_add_one, h, List.map_append, sumI_append]
  show _ + (_ + 0) = _
  rw [Int.add_zero]
theorem valV_get : ∀ {kvs : List (Key × V)} {i : Nat} {k : Key} {v : V}, (kvs.map (·.1)).Nodup → kvs[i]? = some (k, v) → valV kvs k = some v
  | [], i, k, v, _, h => by simp at h
  | p :: kvs, 0, k, v, _, h => by
    have e : p = (k, v) := by simpa using h
    rw [e]
    exact valV_pos rfl
  | p :: kvs, i + 1, k, v, nd, h => by
    have h' : kvs[i]? = some (k, v) := by simpa using h
    have n := List.nodup_cons.mp nd
    rw [valV_neg fun e => n.1 (by
      show p.1 ∈ _
      rw [e]
      exact List.mem_map.mpr ⟨_, List.mem_of_getElem? h', rfl⟩)]
    exact valV_get n.2 h'
theorem int_at {kvs : List (Key × V)} {ks : List Int} {t : Int → Int} {i : Nat} {x y : V} (e2 : kvs.map (·.1) = ks.map (Sum.inl : Int → Key)) (e3 : ∀ r ∈ ks, valV kvs (Sum.inl r : Key) = some (.int (t r))) (nd : ks.Nodup)
    (hx : (kvs[i]?.map fun kv => kV kv.1) = some x) (hy : (kvs[i]?.map Prod.snd) = some y) : ∃ r, ks[i]? = some r ∧ x = .int r ∧ y = .int (t r) := by
  cases e : kvs[i]? with
  | none =>
    rw [e] at hx
    cases hx
  | some kv =>
    obtain ⟨k, v⟩ := kv
    rw [e] at hx hy
    obtain ⟨r, hr, rfl⟩ := key_at e2 e
    have ndk : (kvs.map (·.1)).Nodup := by
      rw [e2]
      exact List.pairwise_map.mpr (nd.imp fun {a b} z => inl_ne z)
    have hv := valV_get ndk e
    rw [e3 r (List.mem_of_getElem? hr)] at hv
    refine ⟨r, hr, (Option.some.inj hx).symm, ?_⟩
    rw [Option.some.inj hv]
    exact (Option.some.inj hy).symm
section
variable {J : It} {n : Nat} {G : Hp → Prop} {Y : Nat → Hp → V → Hp → Prop}
theorem dc_it (w : Walk J n G Y) {g : TG} {tt : TT} {tk tv : TE} {vs : List Nat} {σ : L2.St} {H1 : Hp} {D : Addr} {Qd : Hp → Prop} (Pv : Nat → Hp → Prop) (h0 : Pv 0 (upd H1 D (.dK []))) (hG : ∀ i H, i ≤ n → Pv i H → G H)
    (hs : ∀ i x H H', i < n → Pv i H → Y i H x H' → g x (wipe σ vs) H' fun σ2 H2 => wipe σ2 vs = wipe σ vs ∧ tt σ2 H2 fun b H3 =>
      if b = true then tk σ2 H3 fun y H4 => tv σ2 H4 fun z H5 => ∃ kvs k, y = kV k ∧ H5 D = some (.dK kvs) ∧ kvs.length < sizeLine ∧ Pv (i + 1) (upd H5 D (.dK (putK kvs k z))) else Pv (i + 1) H3) (hd : ∀ H, Pv n H → Qd H) :
    ∃ W : Nat → Nat → Hp → Prop, (∃ m, W 0 m (upd H1 D (.dK []))) ∧ ∀ i m H, W i m H →
      (J.stop i H ∧ Qd H) ∨ (J.go i H ∧ ∃ Nx : Hp → Prop, (∀ H', Nx H' → ∃ m', m' < m ∧ W (i + 1) m' H') ∧ ∀ x H', J.yld i H x H' → g x (wipe σ vs) H' fun σ2 H2 => wipe σ2 vs = wipe σ vs ∧ tt σ2 H2 fun b H3 =>
        if b = true then tk σ2 H3 fun y H4 => tv σ2 H4 fun z H5 => ∃ kvs k, y = kV k ∧ H5 D = some (.dK kvs) ∧ kvs.length < sizeLine ∧ Nx (upd H5 D (.dK (putK kvs k z))) else Nx H3) := by
  refine ⟨fun i m H => m = n - i ∧ i ≤ n ∧ Pv i H, ⟨n, by simp, Nat.zero_le _, h0⟩, ?_⟩
  rintro i m H ⟨rfl, hi, p⟩
  have q := hG i H hi p
  by_cases hlt : i < n
  · exact .inr ⟨w.goes i H hlt q, Pv (i + 1), fun H' p' => ⟨n - (i + 1), by omega, rfl, hlt, p'⟩, fun x H' y => hs i x H H' hlt p (w.yields i H x H' hlt q y)⟩
  · have e : i = n := by omega
    subst e
    exact .inl ⟨w.stops H q, hd H p⟩
end
section
variable {P : Program} {w : World} {K : PySem.W.Frag} {mg : Str → Option Value} {base : Heap} {f : Addr} {fd : FuncData} {C fI fQ : Addr}
/-! ### products -/
def spProducts : Sp := fun vs H Q _ => ∃ (d1 d2 : Addr) (k1 k2 : List Int) (t1 t2 : Int → Int) (A B R : Nat), vs = [.ref d1, .ref d2] ∧ d1 ≠ d2 ∧ IntD H d1 k1 t1 ∧ IntD H d2 k2 t2 ∧ (∀ r ∈ k1, 0 < r ∧ r.natAbs < 2 ^ R) ∧ (∀ r ∈ k2, 0 < r ∧ r.natAbs < 2 ^ R) ∧
  (∀ r, (t1 r).natAbs < 2 ^ A) ∧ (∀ r, (t2 r).natAbs < 2 ^ B) ∧ 0 < A ∧ 0 < B ∧ A + B ≤ 80000 ∧ 0 < R ∧ R ≤ 5000 ∧ k1.length * k2.length ≤ 900 ∧
  ∀ d ks H', Same H H' → H d = none → IntD H' d ks (prodI k1 k2 t1 t2) → ks.length ≤ k1.length * k2.length → (∀ u ∈ ks, ∃ r ∈ k1, ∃ s ∈ k2, u = mulR r s) → Q (.ref d) H'
theorem scProducts : FnScope ["tops", "others", "found", "root", "top", "by", "number", "common", "left"] ["tops", "others"] (defScope sProducts) := ⟨rfl, rfl, rfl, by decide +kernel, rfl, by decide +kernel, by decide +kernel⟩
theorem ok_products {fS : Addr} {fdS : FuncData} (F : FnP K "products" sProducts f fd) (GS : FnOk P w K mg base CX0 1 fS fdS ["one", "other"] spShared) (bS : L2.Binds K fdS ["one", "other"] []) (kS : PySem.W.keepIn K (.ref fS) = true) (gS : mg "shared" = some (.ref fS)) :
    FnOk P w K mg base CX0 2 f fd ["tops", "others"] spProducts := by
  refine F.ok scProducts (fun vs H Q E h => ?_) (fun cdv Ar outer s H vs Q E hr h => ?_)
  · obtain ⟨d1, d2, k1, k2, t1, t2, A, B, R, rfl, _⟩ := h
    rfl
  · obtain ⟨d1, d2, k1, k2, t1, t2, A, B, R, rfl, ndd, h1, h2, r1, r2, z1, z2, A0, B0, AB, R0, R5, len, q⟩ := h
    have hu := hu_of hr
    refine ⟨_, PSs.nox (pss_cons (ps_set (i := 2) scProducts.nd rfl (.inl rfl) pe_dnewK)
      (pss_cons (ps_lock (ps_for PassesOwn.never rfl (pi_items (pv 0)) (pg_tup rfl (pgs_cons (pg_name (i := 3) scProducts.nd rfl (.inl rfl)) (pgs_cons (pg_name (i := 4) scProducts.nd rfl (.inl rfl)) pgs_nil)))
        (pss_one (ps_lock (ps_for PassesOwn.never rfl (pi_items (pv 1)) (pg_tup rfl (pgs_cons (pg_name (i := 5) scProducts.nd rfl (.inl rfl)) (pgs_cons (pg_name (i := 6) scProducts.nd rfl (.inl rfl)) pgs_nil)))
          (pss_cons (ps_set (i := 7) scProducts.nd rfl (.inl rfl) (pe_call GS hr (by rfl) gS kS bS .nil pass0 (pa_cons (pv 3) (pa_cons (pv 5) pa_nil))))
          (pss_cons (ps_set (i := 8) scProducts.nd rfl (.inl rfl) (pe_op op_mulW (pe_op op_fdivNW (pv 3) (pv 7)) (pe_op op_fdivNW (pv 5) (pv 7))))
          (pss_one (ps_dput hu (pv 2) (pv 8) (pe_op op_add (pe_dget2 hu (pv 2) (pv 8) pe_int ⟨rfl, rfl, rfl, rfl⟩) (pe_op op_mulW (pe_op op_mulW (pv 4) (pv 6)) (pv 7))) rfl)))))))))
      (pss_one (ps_ret (pe_lock (pe_dc (own := [("root", 3), ("top", 4)]) (g := gTup K 2 (gCons (gName 3) (gCons (gName 4) gNil))) (tt := tTest (tOp rNe (tVar 4) (tC (.int 0)))) (tk := tVar 3) (tv := tVar 4) rfl scProducts.nd (pi_items (pv 2))
          (blkOk_by (N := ["tops", "others", "found", "root", "top", "by", "number", "common", "left"]) (sc := defScope sProducts) (by decide +kernel))
          (fun _ _ _ _ _ => pg_tup rfl (pgs_cons (pg_name (i := 3) scProducts.nd rfl (.inl rfl)) (pgs_cons (pg_name (i := 4) scProducts.nd rfl (.inl rfl)) pgs_nil))) (fun _ _ _ _ _ => pts_one (pt_cmpR op_ne (pv 4) pe_int (nomark _))) (fun _ _ _ _ _ => pv 3) (fun _ _ _ _ _ => pv 4))))))), ?_⟩
    obtain ⟨kv1, a1, a2, a3, a4, a5⟩ := id h1
    obtain ⟨kv2, b1, b2, b3, b4, b5⟩ := id h2
    have lk1 := len_keys a2
    have lk2 := len_keys b2
    intro p hp
    have smp := same_upd (o := .dK []) hp
    have np1 : p ≠ d1 := (ne_of_none a1 hp).symm
    have np2 : p ≠ d2 := (ne_of_none b1 hp).symm
    refine ⟨d1, .dK kv1, smp _ _ a1, trivial, fun o1 => ?_⟩
    refine ⟨_, rfl, d1, o1, kv1, rfl, upd_same, ?_⟩
    refine for_it (walk_items (d := d1) (o := o1) (kvs := kv1)) (fun i σ H' => ∃ (v3 v4 v5 v6 v7 v8 : Option V) (ks : List Int), σ = [some (.ref d1), some (.ref d2), some (.ref p), v3, v4, v5, v6, v7, v8] ∧ H' d1 = some (.frz o1 (.dK kv1)) ∧ (∀ b o, H b = some o → b ≠ d1 → H' b = some o) ∧
        IntD H' p ks (prodI (k1.take i) k2 t1 t2) ∧ ks.length ≤ i * k2.length ∧ (∀ u ∈ ks, ∃ r ∈ k1, ∃ s ∈ k2, u = mulR r s))
      ⟨none, none, none, none, none, none, [], rfl, upd_same, fun b o e hb => by rw [upd_ne hb]; exact smp _ _ e, ⟨[], by rw [upd_ne np1, upd_same], rfl, (fun r hr => by cases hr), List.nodup_nil, fun r _ => rfl⟩, Nat.zero_le _, (fun u hu => by cases hu)⟩ (fun i σ H' _ hP => ?_) (fun i x σ H' H2 hi hP hy => ?_) (fun σ H' hP => ?_)
    · obtain ⟨_, _, _, _, _, _, _, _, z, _⟩ := hP
      exact z
    · obtain ⟨T, x, y, rfl, hT, rfl, hx, hy⟩ := hy
      obtain ⟨v3, v4, v5, v6, v7, v8, ks, rfl, hf1, keep, hI, lks, sub⟩ := hP
      obtain ⟨r, hr', rfl, rfl⟩ := int_at a2 a3 a4 hx hy
      have rk : r ∈ k1 := List.mem_of_getElem? hr'
      have smT := same_upd (o := .tup [.int r, .int (t1 r)]) hT
      refine ⟨T, _, rfl, SqT.of upd_same, rfl, _, _, rfl, _, _, rfl, rfl, ?_⟩
      refine ⟨d2, .dK kv2, smT _ _ (keep _ _ b1 ndd.symm), trivial, fun o2 => ?_⟩
      refine ⟨_, rfl, d2, o2, kv2, rfl, upd_same, ?_⟩
      refine for_it (walk_items (d := d2) (o := o2) (kvs := kv2)) (fun j σ H3 => ∃ (v5 v6 v7 v8 : Option V) (ks : List Int), σ = [some (.ref d1), some (.ref d2), some (.ref p), some (.int r), some (.int (t1 r)), v5, v6, v7, v8] ∧ H3 d1 = some (.frz o1 (.dK kv1)) ∧ H3 d2 = some (.frz o2 (.dK kv2)) ∧ (∀ b o, H b = some o → b ≠ d1 → b ≠ d2 → H3 b = some o) ∧
          IntD H3 p ks (fun u => prodI (k1.take i) k2 t1 t2 u + rowI r (t1 r) (k2.take j) t2 u) ∧ ks.length ≤ i * k2.length + j ∧ (∀ u ∈ ks, ∃ r ∈ k1, ∃ s ∈ k2, u = mulR r s))
        ⟨v5, v6, v7, v8, ks, rfl, by rw [upd_ne ndd]; exact smT _ _ hf1, upd_same, fun b o e hb hb2 => by rw [upd_ne hb2]; exact smT _ _ (keep _ _ e hb), ((hI.same smT).upd np2).imp fun u => (Int.add_zero _).symm, by omega, sub⟩ (fun j σ H3 _ hP => ?_) (fun j x σ H3 H4 hj hP hy => ?_) (fun σ H3 hP => ?_)
      · obtain ⟨_, _, _, _, _, _, _, z, _⟩ := hP
        exact z
      · obtain ⟨T2, x, y, rfl, hT2, rfl, hx, hy⟩ := hy
        obtain ⟨v5, v6, v7, v8, ks, rfl, hf1', hf2', keep', hI', lks', sub'⟩ := hP
        obtain ⟨s, hs', rfl, rfl⟩ := int_at b2 b3 b4 hx hy
        have sk : s ∈ k2 := List.mem_of_getElem? hs'
        have il : j < k2.length := (List.getElem?_eq_some_iff.mp hs').1
        have il1 : i < k1.length := (List.getElem?_eq_some_iff.mp hr').1
        have smT2 := same_upd (o := .tup [.int s, .int (t2 s)]) hT2
        obtain ⟨r0, rR⟩ := r1 r rk
        obtain ⟨s0, sR⟩ := r2 s sk
        have gp : 0 < Int.gcd r s := Int.gcd_pos_iff.mpr (.inl (by omega))
        have gle : Int.gcd r s ≤ r.natAbs := Nat.le_of_dvd (by omega) (Int.gcd_dvd_natAbs_left r s)
        have gB : Int.gcd r s < 2 ^ R := Nat.lt_of_le_of_lt gle rR
        have gRB : (gR r s).natAbs < 2 ^ R := by
          unfold gR
          rw [Int.natAbs_natCast]
          exact gB
        have cdv' : ∀ z, CDivNW z (gR r s) := fun z => cdivn gp gB R0 (by omega)
        have fB : ∀ z : Int, 0 < z → z.natAbs < 2 ^ R → (z.fdiv (gR r s)).natAbs < 2 ^ R := fun z hz hzR => by
          have e : z = ((z.natAbs : Nat) : Int) := by omega
          rw [e]
          unfold gR
          rw [fdiv_nat, Int.natAbs_natCast]
          exact Nat.lt_of_le_of_lt (Nat.div_le_self ..) hzR
        refine ⟨T2, _, rfl, SqT.of upd_same, rfl, _, _, rfl, _, _, rfl, rfl, ?_⟩
        refine ⟨_, rfl, _, rfl, r, s, rfl, ?_⟩
        refine ⟨_, rfl, _, rfl, r, gR r s, rfl, rfl, cdv' _, _, rfl, _, rfl, s, gR r s, rfl, rfl, cdv' _, _, _, rfl, rfl, cmulw (fB r r0 rR) (fB s s0 sR) R0 R0 (by omega), ?_⟩
        obtain ⟨kvp, p1, p2, p3, p4, p5⟩ := hI'.same smT2
        have len9 : ks.length ≤ 900 := by
          have : (i + 1) * k2.length ≤ k1.length * k2.length := Nat.mul_le_mul_right _ il1
          rw [Nat.succ_mul] at this
          omega
        have got : ∃ o, DGet (upd H3 T2 (.tup [.int s, .int (t2 s)])) p (.int (mulR r s)) o ∧ o.getD (.int 0) = .int (prodI (k1.take i) k2 t1 t2 (mulR r s) + rowI r (t1 r) (k2.take j) t2 (mulR r s)) := by
          by_cases hk : mulR r s ∈ ks
          · exact ⟨_, dget_in p1 (p3 _ hk), rfl⟩
          · refine ⟨none, dget_out p1 (valV_out p2 hk), ?_⟩
            have z := p5 _ hk
            show V.int 0 = _
            rw [show prodI (k1.take i) k2 t1 t2 (mulR r s) + rowI r (t1 r) (k2.take j) t2 (mulR r s) = 0 from z]
        obtain ⟨o, dg, eo⟩ := got
        refine ⟨_, rfl, p, rfl, .inl ⟨_, .inl p1⟩, _, rfl, o, dg, ?_⟩
        rw [eo]
        refine ⟨_, rfl, _, rfl, t1 r, t2 s, rfl, rfl, cmulw (z1 r) (z2 s) A0 B0 (by omega), _, rfl, _, gR r s, rfl, rfl, cmulw (wide_lt (z1 r) (z2 s)) gRB (by omega) R0 (by omega), _, _, rfl, rfl, ?_⟩
        refine ⟨_, rfl, _, rfl, p, _, rfl, DPut.k (k := Sum.inl (mulR r s)) p1 (small1000 (by rw [len_keys p2]; omega)), ?_⟩
        have hfp : ∀ {b : Addr} {o : HO}, b ≠ p → (upd H3 T2 (.tup [.int s, .int (t2 s)])) b = some o → (upd (upd H3 T2 (.tup [.int s, .int (t2 s)])) p (.dK (putK kvp (Sum.inl (mulR r s)) (.int (prodI (k1.take i) k2 t1 t2 (mulR r s) + rowI r (t1 r) (k2.take j) t2 (mulR r s) + t1 r * t2 s * gR r s))))) b = some o := fun {b o} hb e => by
          rw [upd_ne hb]
          exact e
        refine ⟨_, _, _, _, addKey ks (mulR r s), rfl, hfp np1.symm (smT2 _ _ hf1'), hfp np2.symm (smT2 _ _ hf2'), fun b o e hb hb2 => hfp (ne_of_none e hp) (smT2 _ _ (keep' _ _ e hb hb2)), ?_, Nat.le_trans (addKey_len ks _) (by omega), fun u hu' => ?_⟩
        · refine (putI_ok (H := upd H3 T2 (.tup [.int s, .int (t2 s)])) (d := p) (r := mulR r s) p2 p3 p4 p5).imp fun u => ?_
          unfold setI
          show (if u = mulR r s then _ else prodI (k1.take i) k2 t1 t2 u + rowI r (t1 r) (k2.take j) t2 u) = prodI (k1.take i) k2 t1 t2 u + rowI r (t1 r) (k2.take (j + 1)) t2 u
          rw [rowI_succ hs' u]
          by_cases es : u = mulR r s
          · rw [if_pos es, if_pos es.symm, es, Int.add_assoc]
          · rw [if_neg es, if_neg fun z => es z.symm, Int.add_zero]
        · rcases mem_addKey.mp hu' with m | m
          · exact sub' u m
          · exact ⟨r, rk, s, sk, m⟩
      · obtain ⟨v5, v6, v7, v8, ks, rfl, hf1', hf2', keep', hI', lks', sub'⟩ := hP
        refine ⟨hf2', _, _, _, _, _, _, ks, rfl, by rw [upd_ne ndd]; exact hf1', fun b o e hb => ?_, (hI'.upd np2).imp fun u => ?_, ?_, sub'⟩
        · by_cases hb2 : b = d2
          · rw [hb2, upd_same]
            rw [hb2, b1] at e
            exact e
          · rw [upd_ne hb2]
            exact keep' _ _ e hb hb2
        · show _ + rowI r (t1 r) (k2.take kv2.length) t2 u = _
          rw [lk2, List.take_length, prodI_succ hr' u]
        · rw [Nat.succ_mul]
          omega
    · obtain ⟨v3, v4, v5, v6, v7, v8, ks, rfl, hf1, keep, hI, lks, sub⟩ := hP
      refine ⟨hf1, ?_⟩
      rw [lk1, List.take_length] at hI
      rw [lk1] at lks
      have smq : Same H (upd H' d1 (.dK kv1)) := fun b o e => by
        by_cases hb : b = d1
        · rw [hb, upd_same]
          rw [hb, a1] at e
          exact e
        · rw [upd_ne hb]
          exact keep _ _ e hb
      have hIq := hI.upd (o := .dK kv1) np1
      generalize upd H' d1 (.dK kv1) = Hq at smq hIq ⊢
      obtain ⟨kvp, p1, p2, p3, p4, p5⟩ := hIq
      have lkp := len_keys p2
      refine ⟨p, .dK kvp, p1, trivial, fun o3 => ?_⟩
      refine ⟨_, rfl, p, o3, kvp, rfl, upd_same, fun D hD => dc_it (walk_items (d := p) (o := o3) (kvs := kvp)) (fun i H2 => (∀ b o, Hq b = some o → b ≠ p → H2 b = some o) ∧ H2 p = some (.frz o3 (.dK kvp)) ∧ ∃ ks', IntD H2 D ks' (fun u => if u ∈ ks.take i then prodI k1 k2 t1 t2 u else 0) ∧ ks'.length ≤ i ∧ ∀ u ∈ ks', u ∈ ks) ?_ (fun i H2 _ hP => hP.2.1) (fun i x H2 H3 hi hP hy => ?_) (fun H2 hP => ?_)⟩
      · have nDp : p ≠ D := ne_of_none (upd_same (H := Hq) (a := p) (o := .frz o3 (.dK kvp))) hD
        refine ⟨fun b o e hb => ?_, by rw [upd_ne nDp]; exact upd_same, [], ⟨[], upd_same, rfl, (fun r hr => by cases hr), List.nodup_nil, fun r _ => by simp⟩, Nat.le_refl _, (fun u hu => by cases hu)⟩
        exact same_upd hD _ _ (by rw [upd_ne hb]; exact e)
      · obtain ⟨T3, x, y, rfl, hT3, rfl, hx, hy⟩ := hy
        obtain ⟨keep3, hfp, ks', hI3, l3, sub3⟩ := hP
        obtain ⟨u, hu', rfl, rfl⟩ := int_at p2 p3 p4 hx hy
        have uk : u ∈ ks := List.mem_of_getElem? hu'
        have iu : i < ks.length := (List.getElem?_eq_some_iff.mp hu').1
        have sm3 := same_upd (o := .tup [.int u, .int (prodI k1 k2 t1 t2 u)]) hT3
        have nDp : p ≠ D := fun z => by
          obtain ⟨kvD, q1, _⟩ := hI3
          rw [← z, hfp] at q1
          cases q1
        refine ⟨T3, _, rfl, SqT.of upd_same, rfl, _, _, rfl, _, _, rfl, rfl, rfl, ?_⟩
        refine ⟨_, rfl, rfl, _, rfl, ?_⟩
        by_cases hz : prodI k1 k2 t1 t2 u = 0
        · refine iteNS (congrArg V.int hz) ?_
          refine ⟨fun b o e hb => sm3 _ _ (keep3 _ _ e hb), sm3 _ _ hfp, ks', (hI3.same sm3).imp fun s => ?_, Nat.le_succ_of_le l3, sub3⟩
          show (if s ∈ ks.take i then prodI k1 k2 t1 t2 s else 0) = (if s ∈ ks.take (i + 1) then prodI k1 k2 t1 t2 s else 0)
          by_cases m : s ∈ ks.take i
          · rw [if_pos m, if_pos ((mem_take_succ hu').mpr (.inl m))]
          · rw [if_neg m]
            by_cases es : s = u
            · rw [es, hz]
              split <;> rfl
            · rw [if_neg fun z => ((mem_take_succ hu').mp z).elim m es]
        · refine iteNT (ine hz) ?_
          obtain ⟨kvD, q1, q2, q3, q4, q5⟩ := hI3.same sm3
          refine ⟨_, rfl, _, rfl, kvD, Sum.inl u, rfl, q1, small1000 (by rw [len_keys q2]; omega), fun b o e hb => ?_, ?_, addKey ks' u, (putI_ok (r := u) q2 q3 q4 q5).imp fun s => ?_, Nat.le_trans (addKey_len ks' u) (by omega), fun s hs => ?_⟩
          · have nb : b ≠ D := fun z => by
              rw [z] at e hb
              have := (by rw [upd_ne hb]; exact e : (upd Hq p (.frz o3 (.dK kvp))) D = some o)
              rw [hD] at this
              cases this
            rw [upd_ne nb]
            exact sm3 _ _ (keep3 _ _ e hb)
          · rw [upd_ne nDp]
            exact sm3 _ _ hfp
          · unfold setI
            show (if s = u then _ else if s ∈ ks.take i then prodI k1 k2 t1 t2 s else 0) = (if s ∈ ks.take (i + 1) then prodI k1 k2 t1 t2 s else 0)
            by_cases es : s = u
            · rw [if_pos es, if_pos ((mem_take_succ hu').mpr (.inr es)), es]
            · rw [if_neg es]
              by_cases m : s ∈ ks.take i
              · rw [if_pos m, if_pos ((mem_take_succ hu').mpr (.inl m))]
              · rw [if_neg m, if_neg fun z => ((mem_take_succ hu').mp z).elim m es]
          · rcases mem_addKey.mp hs with m | m
            · exact sub3 s m
            · rw [m]
              exact uk
      · obtain ⟨keep3, hfp, ks', hI3, l3, sub3⟩ := hP
        have nDp : D ≠ p := fun z => by
          obtain ⟨kvD, q1, _⟩ := hI3
          rw [z, hfp] at q1
          cases q1
        refine ⟨hfp, q D ks' _ (fun b o e => ?_) ?_ ((hI3.upd nDp).imp fun u => ?_) (by omega) fun u hu' => sub u (sub3 u hu')⟩
        · rw [upd_ne (ne_of_none e hp)]
          exact keep3 _ _ (smq _ _ e) (ne_of_none e hp)
        · refine smq.free ?_
          have z := hD
          rw [upd_ne nDp] at z
          exact z
        · show (if u ∈ ks.take kvp.length then prodI k1 k2 t1 t2 u else 0) = _
          rw [lkp, List.take_length]
          by_cases m : u ∈ ks
          · rw [if_pos m]
          · rw [if_neg m, p5 u m]
end
end TC
namespace TC
open PySem PySem.Spec PyProof.Rows L2 TCA
/-! ### products of numbers, as fractions -/
def sumQ : List Rat → Rat
  | [] => 0
  | a :: l => a + sumQ l
/-- the product at a root, by the roots of both -/
def prodG (k1 k2 : List Int) (g1 g2 : Int → Rat) (u : Int) : Rat := sumQ (k1.map fun r => sumQ (k2.map fun s => if mulR r s = u then g1 r * g2 s * ((gR r s : Int) : Rat) else 0))
/-- the tops over one bottom D -/
def topsG (g : Int → Rat) (D : Nat) (r : Int) : Int := (g r).num * ((D / (g r).den : Nat) : Int)
theorem topsG_div {g : Int → Rat} {c : Nat} (hc : 0 < c) (r : Int) (h : (g r).den ∣ c) : Rat.divInt (topsG g c r) (c : Int) = g r := by
  have dp := (g r).den_pos
  have d0 : ((g r).den : Int) ≠ 0 := by omega
  have c0 : ((c : Nat) : Int) ≠ 0 := by omega
  have e : Rat.divInt (topsG g c r) (c : Int) = Rat.divInt (g r).num ((g r).den : Int) := by
    rw [Rat.divInt_eq_divInt_iff c0 d0]
    unfold topsG
    rw [Int.mul_assoc]
    congr 1
    rw [← Int.natCast_mul, Nat.div_mul_cancel h]
  rw [e, Rat.num_divInt_den]
theorem divInt_add {d : Int} (hd : d ≠ 0) (a b : Int) : Rat.divInt (a + b) d = Rat.divInt a d + Rat.divInt b d := by
  rw [Rat.divInt_add_divInt a b hd hd, Rat.divInt_eq_divInt_iff hd (Int.mul_ne_zero hd hd), ← Int.add_mul, Int.mul_assoc]
theorem sum_div {α : Type} {d : Int} (hd : d ≠ 0) {f : α → Int} {g : α → Rat} : ∀ {l : List α}, (∀ a ∈ l, Rat.divInt (f a) d = g a) → Rat.divInt (sumI (l.map f)) d = sumQ (l.map g)
  | [], _ => Rat.zero_divInt d
  | a :: l, h => by
    show Rat.divInt (f a + sumI (l.map f)) d = g a + sumQ (l.map g)
    rw [divInt_add hd, h a (List.mem_cons_self ..), sum_div hd fun b hb => h b (List.mem_cons_of_mem _ hb)]
theorem divInt_of_one (g : Int) : Rat.divInt g 1 = (g : Rat) := by
  rw [Rat.divInt_eq_div]
  grind
theorem term_div (a b g c1 c2 : Int) : Rat.divInt (a * b * g) (c1 * c2) = Rat.divInt a c1 * Rat.divInt b c2 * (g : Rat) := by
  rw [← divInt_of_one g, Rat.divInt_mul_divInt, Rat.divInt_mul_divInt, Int.mul_one]
theorem row_divG {k2 : List Int} {g1 g2 : Int → Rat} {c1 c2 : Nat} (h1 : 0 < c1) (h2 : 0 < c2) (d1 : ∀ r, (g1 r).den ∣ c1) (d2 : ∀ r, (g2 r).den ∣ c2) (r u : Int) :
    Rat.divInt (rowI r (topsG g1 c1 r) k2 (topsG g2 c2) u) ((c1 : Int) * (c2 : Int)) = sumQ (k2.map fun s => if mulR r s = u then g1 r * g2 s * ((gR r s : Int) : Rat) else 0) := by
  have c0 : (c1 : Int) * (c2 : Int) ≠ 0 := Int.mul_ne_zero (by omega) (by omega)
  unfold rowI
  refine sum_div c0 fun s hs => ?_
  by_cases e : mulR r s = u
  · rw [if_pos e, if_pos e, term_div, topsG_div h1 r (d1 r), topsG_div h2 s (d2 s)]
  · rw [if_neg e, if_neg e, Rat.zero_divInt]
theorem prod_divG {k1 k2 : List Int} {g1 g2 : Int → Rat} {c1 c2 : Nat} (h1 : 0 < c1) (h2 : 0 < c2) (d1 : ∀ r, (g1 r).den ∣ c1) (d2 : ∀ r, (g2 r).den ∣ c2) (u : Int) :
    Rat.divInt (prodI k1 k2 (topsG g1 c1) (topsG g2 c2) u) ((c1 : Int) * (c2 : Int)) = prodG k1 k2 g1 g2 u := by
  have c0 : (c1 : Int) * (c2 : Int) ≠ 0 := Int.mul_ne_zero (by omega) (by omega)
  unfold prodI prodG
  exact sum_div c0 fun r hr => row_divG h1 h2 d1 d2 r u
theorem den_divInt {t : Int} {c : Nat} (hc : 0 < c) : (Rat.divInt t (c : Int)).den ∣ c := by
  have e2 := congrArg Prod.snd (TCR.low_rat t (c : Int) (by omega))
  have es : TCM.sgn t (c : Int) = ((Int.gcd t (c : Int) : Nat) : Int) := if_neg (by omega)
  have e3 : (c : Int).fdiv ((Int.gcd t (c : Int) : Nat) : Int) = ((Rat.divInt t (c : Int)).den : Int) := by
    rw [← es]
    exact e2
  rw [fdiv_nat] at e3
  have e4 : c / Int.gcd t (c : Int) = (Rat.divInt t (c : Int)).den := Int.ofNat.inj e3
  rw [← e4]
  exact Nat.div_dvd_of_dvd (by
    have := Int.gcd_dvd_natAbs_right t (c : Int)
    rwa [Int.natAbs_natCast] at this)
theorem sumI_le {α : Type} {K : Nat} {f : α → Int} : ∀ {l : List α}, (∀ a ∈ l, (f a).natAbs ≤ K) → (sumI (l.map f)).natAbs ≤ l.length * K
  | [], _ => Nat.zero_le _
  | a :: l, h => by
    have e1 := h a (List.mem_cons_self ..)
    have e2 := sumI_le (f := f) fun b hb => h b (List.mem_cons_of_mem _ hb)
    show (f a + sumI (l.map f)).natAbs ≤ (l.length + 1) * K
    rw [Nat.succ_mul]
    omega
theorem prodI_le {k1 k2 : List Int} {t1 t2 : Int → Int} {K : Nat} (h : ∀ r ∈ k1, ∀ s ∈ k2, (t1 r * t2 s * gR r s).natAbs ≤ K) (u : Int) : (prodI k1 k2 t1 t2 u).natAbs ≤ k1.length * k2.length * K := by
  rw [Nat.mul_assoc]
  refine sumI_le fun r hr => sumI_le fun s hs => ?_
  split
  · exact h r hr s hs
  · exact Nat.zero_le _
theorem tops_lt {L : List Part} {c A B : Nat} (hc : c < 2 ^ B) (zA : ∀ r, (TCR.val L r).num.natAbs < 2 ^ A) (r : Int) : (topsOf L c r).natAbs < 2 ^ (A + B) := wide_lt (zA r) (by rw [Int.natAbs_natCast]; exact Nat.lt_of_le_of_lt (Nat.div_le_self ..) hc)
/-- how large a number's parts are: bottoms that divide D, tops and roots below a power of 2 -/
structure Fit (D A R : Nat) (L : List Part) : Prop where
  can : TCR.Canon L
  den : ∀ x ∈ L, x.2.den ∣ D
  num : ∀ x ∈ L, x.2.num.natAbs < 2 ^ A
  pos : ∀ x ∈ L, 0 < x.1 ∧ x.1.natAbs < 2 ^ R
theorem Fit.val {D A R : Nat} {L : List Part} (h : Fit D A R L) (r : Int) : (TCR.val L r).num.natAbs < 2 ^ A := by
  rcases Classical.em (∃ q, (r, q) ∈ L) with ⟨q, z⟩ | z
  · rw [h.can.mem z]
    exact h.num _ z
  · rw [TCR.val_not fun x hx e => z ⟨x.2, by rw [← e]; exact hx⟩]
    exact Nat.pow_pos (by decide)
section
variable {P : Program} {w : World} {K : PySem.W.Frag} {mg : Str → Option Value} {base : Heap} {f : Addr} {fd : FuncData} {C fI fQ : Addr}
/-! ### times -/
def spTimes (C : Addr) : Sp := fun vs H Q _ => ∃ (x y : Addr) (L M : List Part) (D1 D2 A1 A2 B1 B2 R : Nat), vs = [.ref x, .ref y] ∧ NumAt C H x L ∧ NumAt C H y M ∧ Fit D1 A1 R L ∧ Fit D2 A2 R M ∧ 0 < D1 ∧ 0 < D2 ∧ D1 < 2 ^ B1 ∧ D2 < 2 ^ B2 ∧ 0 < A1 ∧ 0 < A2 ∧ 0 < B1 ∧ 0 < B2 ∧ B1 + B2 ≤ 8000 ∧ A1 + A2 ≤ 20000 ∧ 0 < R ∧ R ≤ 5000 ∧
  L.length ≤ 60 ∧ M.length ≤ 60 ∧ L.length * M.length ≤ 900 ∧
  ∀ z N H', Same H H' → H z = none → NumAt C H' z N → Fit (D1 * D2) (A1 + B1 + (A2 + B2) + R + 10) (R + R) N → (∀ u, TCR.val N u = prodG (L.map (·.1)) (M.map (·.1)) (TCR.val L) (TCR.val M) u) → N.length ≤ L.length * M.length → Q (.ref z) H'
theorem scTimes : FnScope ["one", "other", "tops", "bottom", "others", "below"] ["one", "other"] (defScope sTimes) := ⟨rfl, rfl, rfl, by decide +kernel, rfl, by decide +kernel, by decide +kernel⟩
theorem fdiv_pos {z g : Int} (hz : 0 < z) (hg : 0 < g) (h : g ∣ z) : 0 < z.fdiv g := by
  obtain ⟨k, rfl⟩ := h
  rw [Int.mul_fdiv_cancel_left _ (by omega)]
  rcases Int.lt_trichotomy 0 k with h | h | h
  · exact h
  · rw [← h] at hz
    omega
  · have := Int.mul_neg_of_pos_of_neg hg h
    omega
theorem mulR_pos {r s : Int} {R : Nat} (hr : 0 < r) (hs : 0 < s) (zr : r.natAbs < 2 ^ R) (zs : s.natAbs < 2 ^ R) : 0 < mulR r s ∧ (mulR r s).natAbs < 2 ^ (R + R) := by
  have gp : 0 < Int.gcd r s := Int.gcd_pos_iff.mpr (.inl (by omega))
  have gp' : 0 < gR r s := by
    unfold gR
    omega
  have fB : ∀ z : Int, 0 < z → z.natAbs < 2 ^ R → (z.fdiv (gR r s)).natAbs < 2 ^ R := fun z hz hzR => by
    have e : z = ((z.natAbs : Nat) : Int) := by omega
    rw [e]
    unfold gR
    rw [fdiv_nat, Int.natAbs_natCast]
    exact Nat.lt_of_le_of_lt (Nat.div_le_self ..) hzR
  exact ⟨Int.mul_pos (fdiv_pos hr gp' (Int.gcd_dvd_left ..)) (fdiv_pos hs gp' (Int.gcd_dvd_right ..)), wide_lt (fB r hr zr) (fB s hs zs)⟩
theorem ok_times {fN fO fP fW : Addr} {fdN fdO fdP fdW : FuncData} (F : FnP K "times" sTimes f fd) (T : TxtN K mg C fI fQ) (GN : FnOk P w K mg base CX0 1 fN fdN ["thing"] (spNeed C)) (bN : L2.Binds K fdN ["thing"] []) (kN : PySem.W.keepIn K (.ref fN) = true) (gN : mg "need_exact" = some (.ref fN))
    (GO : FnOk P w K mg base CX0 2 fO fdO ["parts"] spOneB) (bO : L2.Binds K fdO ["parts"] []) (kO : PySem.W.keepIn K (.ref fO) = true) (gO : mg "on_one_bottom" = some (.ref fO))
    (GP : FnOk P w K mg base CX0 2 fP fdP ["tops", "others"] spProducts) (bP : L2.Binds K fdP ["tops", "others"] []) (kP : PySem.W.keepIn K (.ref fP) = true) (gP : mg "products" = some (.ref fP))
    (GW : FnOk P w K mg base CX0 3 fW fdW ["tops", "bottom"] (spLowered C)) (bW : L2.Binds K fdW ["tops", "bottom"] []) (kW : PySem.W.keepIn K (.ref fW) = true) (gW : mg "lowered" = some (.ref fW)) :
    FnOk P w K mg base CX0 4 f fd ["one", "other"] (spTimes C) := by
  refine F.ok scTimes (fun vs H Q E h => ?_) (fun cdv Ar outer s H vs Q E hr h => ?_)
  · obtain ⟨x, y, L, M, D1, D2, A1, A2, B1, B2, R, rfl, _⟩ := h
    rfl
  · obtain ⟨x, y, L, M, D1, D2, A1, A2, B1, B2, R, rfl, hx, hy, fL, fM, D10, D20, z1, z2, A10, A20, B10, B20, BB, AA, R0, R5, l1, l2, l12, q⟩ := h
    have hr1 := hr.mono (j := 1) (by decide)
    have hr2 := hr.mono (j := 2) (by decide)
    refine ⟨_, PSs.nox (pss_cons (ps_expr (pe_call GN hr1 (by rfl) gN kN bN .nil pass0 (pa_cons (pv 0) pa_nil)))
      (pss_cons (ps_expr (pe_call GN hr1 (by rfl) gN kN bN .nil pass0 (pa_cons (pv 1) pa_nil)))
      (pss_cons (ps_asg (pe_call GO hr2 (by rfl) gO kO bO .nil pass0 (pa_cons (pe_fld (pv 0) rfl) pa_nil)) (pg_tup rfl (pgs_cons (pg_name (i := 2) scTimes.nd rfl (.inl rfl)) (pgs_cons (pg_name (i := 3) scTimes.nd rfl (.inl rfl)) pgs_nil))))
      (pss_cons (ps_asg (pe_call GO hr2 (by rfl) gO kO bO .nil pass0 (pa_cons (pe_fld (pv 1) rfl) pa_nil)) (pg_tup rfl (pgs_cons (pg_name (i := 4) scTimes.nd rfl (.inl rfl)) (pgs_cons (pg_name (i := 5) scTimes.nd rfl (.inl rfl)) pgs_nil))))
      (pss_one (ps_ret (pe_call GW hr (by rfl) gW kW bW .nil pass0 (pa_cons (pe_call GP hr2 (by rfl) gP kP bP .nil pass0 (pa_cons (pv 2) (pa_cons (pv 4) pa_nil))) (pa_cons (pe_op op_mulW (pv 3) (pv 5)) pa_nil))))))))), ?_⟩
    refine ⟨_, rfl, x, L, rfl, hx, ?_⟩
    refine ⟨_, rfl, y, M, rfl, hy, ?_⟩
    obtain ⟨dx, p1, hx1, hp1⟩ := id hx
    obtain ⟨dy, p2, hy1, hp2⟩ := id hy
    refine ⟨_, rfl, x, C, dx, _, _, rfl, hx1, T.cl, T.nP, rfl, p1, L, D1, A1, B1, rfl, hp1, fL.can, fL.den, D10, z1, B10, by omega, fL.num, A10, by omega, l1, fun v1 d1 c1 H1 s1 hv1 ev1 hd1 i1 c10 c1D c1d => ?_⟩
    refine ⟨v1, _, rfl, SqT.of ev1, rfl, _, _, rfl, _, _, rfl, rfl, ?_⟩
    refine ⟨_, rfl, y, C, dy, _, _, rfl, s1 _ _ hy1, T.cl, T.nP, rfl, p2, M, D2, A2, B2, rfl, hp2.same s1, fM.can, fM.den, D20, z2, B20, by omega, fM.num, A20, by omega, l2, fun v2 d2 c2 H2 s2 hv2 ev2 hd2 i2 c20 c2D c2d => ?_⟩
    refine ⟨v2, _, rfl, SqT.of ev2, rfl, _, _, rfl, _, _, rfl, rfl, ?_⟩
    have c1B : c1 < 2 ^ B1 := Nat.lt_of_le_of_lt (Nat.le_of_dvd D10 c1D) z1
    have c2B : c2 < 2 ^ B2 := Nat.lt_of_le_of_lt (Nat.le_of_dvd D20 c2D) z2
    have ndd : d1 ≠ d2 := by
      obtain ⟨_, z, _⟩ := i1
      exact ne_of_none z hd2
    have kp : ∀ {N : List Part} {D A : Nat}, Fit D A R N → ∀ r ∈ N.map (·.1), 0 < r ∧ r.natAbs < 2 ^ R := fun {N D A} h r hr => by
      obtain ⟨z, hz, e⟩ := List.mem_map.mp hr
      rw [← e]
      exact h.pos z hz
    have tl1 := tops_lt c1B fL.val
    have tl2 := tops_lt c2B fM.val
    refine ⟨_, rfl, _, rfl, d1, d2, L.map (·.1), M.map (·.1), _, _, A1 + B1, A2 + B2, R, rfl, ndd, i1.same s2, i2, kp fL, kp fM, tl1, tl2, by omega, by omega, by omega, R0, R5, by rw [List.length_map, List.length_map]; exact l12, fun d ks H3 s3 hd i3 lk sub => ?_⟩
    rw [List.length_map, List.length_map] at lk
    have b0 : (c1 : Int) * (c2 : Int) ≠ 0 := Int.mul_ne_zero (by omega) (by omega)
    have n1 : ((c1 : Nat) : Int).natAbs < 2 ^ B1 := by rw [Int.natAbs_natCast]; exact c1B
    have n2 : ((c2 : Nat) : Int).natAbs < 2 ^ B2 := by rw [Int.natAbs_natCast]; exact c2B
    refine ⟨_, rfl, _, rfl, (c1 : Int), (c2 : Int), rfl, rfl, cmulw n1 n2 B10 B20 (by omega), ?_⟩
    refine ⟨d, ks, _, _, B1 + B2, rfl, i3, b0, wide_lt n1 n2, by omega, BB, by omega, fun z N H4 s4 hz hN cN vN lN => ?_⟩
    have vQ : ∀ u, TCR.val N u = prodG (L.map (·.1)) (M.map (·.1)) (TCR.val L) (TCR.val M) u := fun u => (vN u).trans (prod_divG (g1 := TCR.val L) (g2 := TCR.val M) c10 c20 (den_val c1d fL.can) (den_val c2d fM.can) u)
    refine q z N H4 (((s1.trans s2).trans s3).trans s4) ((((s1.trans s2).trans s3)).free hz) hN ⟨cN, fun e he => ?_, fun e he => ?_, fun e he => ?_⟩ vQ (Nat.le_trans lN lk)
    · rw [← cN.mem he, vN e.1, ← Int.natCast_mul]
      exact Nat.dvd_trans (den_divInt (Nat.mul_pos c10 c20)) (Nat.mul_dvd_mul c1D c2D)
    · rw [← cN.mem he, vN e.1]
      have lo := (TCM.low_abs (prodI (L.map (·.1)) (M.map (·.1)) (topsOf L c1) (topsOf M c2) e.1) _ b0).1
      rw [TCR.low_rat _ _ b0] at lo
      refine Nat.lt_of_le_of_lt lo ?_
      have bt : ∀ r ∈ L.map (·.1), ∀ s ∈ M.map (·.1), (topsOf L c1 r * topsOf M c2 s * gR r s).natAbs ≤ 2 ^ (A1 + B1 + (A2 + B2) + R) := fun r hr s hs => by
        refine Nat.le_of_lt (wide_lt (wide_lt (tl1 r) (tl2 s)) ?_)
        unfold gR
        rw [Int.natAbs_natCast]
        obtain ⟨r0, rR⟩ := kp fL r hr
        exact Nat.lt_of_le_of_lt (Nat.le_of_dvd (by omega) (Int.gcd_dvd_natAbs_left r s)) rR
      refine Nat.lt_of_le_of_lt (prodI_le bt e.1) ?_
      rw [List.length_map, List.length_map, Nat.pow_add 2 _ 10, Nat.mul_comm]
      exact Nat.mul_lt_mul_of_pos_left (show L.length * M.length < 2 ^ 10 by omega) (Nat.pow_pos (by decide))
    · have nz : TCR.val N e.1 ≠ 0 := by
        rw [cN.mem he]
        exact cN.nz e he
      have uk : e.1 ∈ ks := Classical.byContradiction fun m => nz (by
        rw [vN e.1]
        obtain ⟨_, _, _, _, _, out⟩ := i3
        rw [out e.1 m, Rat.zero_divInt])
      obtain ⟨r, hr', s, hs', eu⟩ := sub e.1 uk
      obtain ⟨r0, rR⟩ := kp fL r hr'
      obtain ⟨s0, sR⟩ := kp fM s hs'
      rw [eu]
      exact mulR_pos r0 s0 rR sR
end
end TC
namespace TC
/-! ### facts of the product, as fractions -/
theorem sumQ_zero {α : Type} {f : α → Rat} : ∀ {l : List α}, (∀ a ∈ l, f a = 0) → sumQ (l.map f) = 0
  | [], _ => rfl
  | a :: l, h => by
    show f a + sumQ (l.map f) = 0
    rw [h a (List.mem_cons_self ..), sumQ_zero fun b hb => h b (List.mem_cons_of_mem _ hb)]
    grind
theorem sumQ_add {α : Type} (f g : α → Rat) : ∀ l : List α, sumQ (l.map fun a => f a + g a) = sumQ (l.map f) + sumQ (l.map g)
  | [] => by show (0 : Rat) = 0 + 0; grind
  | a :: l => by
    show f a + g a + sumQ (l.map fun a => f a + g a) = f a + sumQ (l.map f) + (g a + sumQ (l.map g))
    rw [sumQ_add f g l]
    grind
theorem sumQ_mul {α : Type} (c : Rat) (f : α → Rat) : ∀ l : List α, sumQ (l.map fun a => c * f a) = c * sumQ (l.map f)
  | [] => by show (0 : Rat) = c * 0; grind
  | a :: l => by
    show c * f a + sumQ (l.map fun a => c * f a) = c * (f a + sumQ (l.map f))
    rw [sumQ_mul c f l]
    grind
theorem sumQ_congr {α : Type} {f g : α → Rat} {l : List α} (h : ∀ a ∈ l, f a = g a) : sumQ (l.map f) = sumQ (l.map g) := by
  rw [List.map_congr_left h]
theorem sumQ_swap {α β : Type} (f : α → β → Rat) (m : List β) : ∀ l : List α, sumQ (l.map fun a => sumQ (m.map fun b => f a b)) = sumQ (m.map fun b => sumQ (l.map fun a => f a b))
  | [] => (sumQ_zero fun b _ => rfl).symm
  | a :: l => by
    show sumQ (m.map fun b => f a b) + sumQ (l.map fun a => sumQ (m.map fun b => f a b)) = sumQ (m.map fun b => f a b + sumQ (l.map fun a => f a b))
    rw [sumQ_add (fun b => f a b) (fun b => sumQ (l.map fun a => f a b)) m, sumQ_swap f m l]
theorem sumQ_perm {l m : List Rat} (h : l.Perm m) : sumQ l = sumQ m := by
  induction h with
  | nil => rfl
  | cons a _ ih =>
    show a + _ = a + _
    rw [ih]
  | swap a b l =>
    show b + (a + sumQ l) = a + (b + sumQ l)
    grind
  | trans _ _ h1 h2 => exact h1.trans h2
theorem sumQ_filter {f : Int → Rat} : ∀ l : List Int, sumQ (l.map f) = sumQ ((l.filter fun r => decide (f r ≠ 0)).map f)
  | [] => rfl
  | a :: l => by
    rw [List.filter_cons]
    by_cases h : f a = 0
    · rw [if_neg (by simp [h])]
      show f a + sumQ (l.map f) = _
      rw [h, sumQ_filter l]
      grind
    · rw [if_pos (by simp [h])]
      show f a + sumQ (l.map f) = f a + sumQ ((l.filter fun r => decide (f r ≠ 0)).map f)
      rw [sumQ_filter l]
theorem sum_supp {k k' : List Int} {f : Int → Rat} (nd : k.Nodup) (nd' : k'.Nodup) (h : ∀ r, f r ≠ 0 → r ∈ k) (h' : ∀ r, f r ≠ 0 → r ∈ k') : sumQ (k.map f) = sumQ (k'.map f) := by
  rw [sumQ_filter k, sumQ_filter k']
  refine sumQ_perm (List.Perm.map f ((List.perm_ext_iff_of_nodup (nd.filter _) (nd'.filter _)).mpr fun r => ?_))
  rw [List.mem_filter, List.mem_filter]
  refine ⟨fun z => ⟨h' r (of_decide_eq_true z.2), z.2⟩, fun z => ⟨h r (of_decide_eq_true z.2), z.2⟩⟩
theorem sum_pick {k : List Int} {f : Int → Rat} (nd : k.Nodup) (u : Int) (h : f u ≠ 0 → u ∈ k) : sumQ (k.map fun r => if r = u then f r else 0) = f u := by
  have z := sum_supp (k' := [u]) (f := fun r => if r = u then f r else 0) nd (by simp) (fun r hr => ?_) (fun r hr => ?_)
  · rw [z]
    show (if u = u then f u else 0) + 0 = f u
    rw [if_pos rfl]
    grind
  · by_cases e : r = u
    · rw [e]
      refine h fun z => hr ?_
      rw [e, if_pos rfl]
      exact z
    · exact absurd (if_neg e) hr
  · by_cases e : r = u
    · exact List.mem_singleton.mpr e
    · exact absurd (if_neg e) hr
/-- where a function's support lies -/
def Cov (g : Int → Rat) (k : List Int) : Prop := k.Nodup ∧ ∀ r, g r ≠ 0 → r ∈ k
theorem prodG_supp {k1 k1' k2 k2' : List Int} {g1 g2 : Int → Rat} (h1 : Cov g1 k1) (h1' : Cov g1 k1') (h2 : Cov g2 k2) (h2' : Cov g2 k2') (u : Int) : prodG k1 k2 g1 g2 u = prodG k1' k2' g1 g2 u := by
  have inner : ∀ r, sumQ (k2.map fun s => if mulR r s = u then g1 r * g2 s * ((gR r s : Int) : Rat) else 0) = sumQ (k2'.map fun s => if mulR r s = u then g1 r * g2 s * ((gR r s : Int) : Rat) else 0) := fun r => by
    have nz : ∀ s, (if mulR r s = u then g1 r * g2 s * ((gR r s : Int) : Rat) else 0) ≠ 0 → g2 s ≠ 0 := fun s hs e => hs (by
      split
      · rw [e]
        grind
      · rfl)
    exact sum_supp h2.1 h2'.1 (fun s hs => h2.2 s (nz s hs)) fun s hs => h2'.2 s (nz s hs)
  unfold prodG
  rw [sumQ_congr fun r _ => inner r]
  have nz : ∀ r, sumQ (k2'.map fun s => if mulR r s = u then g1 r * g2 s * ((gR r s : Int) : Rat) else 0) ≠ 0 → g1 r ≠ 0 := fun r hr e => hr (sumQ_zero fun s _ => by
    split
    · rw [e]
      grind
    · rfl)
  exact sum_supp h1.1 h1'.1 (fun r hr => h1.2 r (nz r hr)) fun r hr => h1'.2 r (nz r hr)
theorem gR_comm (r s : Int) : gR r s = gR s r := by
  unfold gR
  rw [Int.gcd_comm]
theorem mulR_comm (r s : Int) : mulR r s = mulR s r := by
  unfold mulR
  rw [gR_comm r s, Int.mul_comm]
theorem prodG_comm (k1 k2 : List Int) (g1 g2 : Int → Rat) (u : Int) : prodG k1 k2 g1 g2 u = prodG k2 k1 g2 g1 u := by
  unfold prodG
  rw [sumQ_swap]
  refine sumQ_congr fun s _ => sumQ_congr fun r _ => ?_
  rw [mulR_comm r s, gR_comm r s, Rat.mul_comm (g1 r) (g2 s)]
theorem prodG_add (k1 k2 : List Int) (g1 g2 h2 : Int → Rat) (u : Int) : prodG k1 k2 g1 (fun s => g2 s + h2 s) u = prodG k1 k2 g1 g2 u + prodG k1 k2 g1 h2 u := by
  unfold prodG
  rw [← sumQ_add]
  refine sumQ_congr fun r _ => ?_
  rw [← sumQ_add]
  refine sumQ_congr fun s _ => ?_
  split <;> grind
theorem prodG_zero (k1 k2 : List Int) (g1 g2 : Int → Rat) (u : Int) (h : ∀ s, g2 s = 0) : prodG k1 k2 g1 g2 u = 0 := by
  refine sumQ_zero fun r _ => sumQ_zero fun s _ => ?_
  rw [h s]
  split <;> grind
theorem mulR_one {r : Int} (h : 0 < r) : mulR r 1 = r ∧ gR r 1 = 1 := by
  have e : gR r 1 = 1 := by
    unfold gR
    rw [Int.gcd_one_right]
    rfl
  refine ⟨?_, e⟩
  unfold mulR
  rw [e, Int.fdiv_one, Int.fdiv_one, Int.mul_one]
/-- times a fraction -/
theorem prodG_one {k : List Int} {g : Int → Rat} (c : Rat) (hk : Cov g k) (pos : ∀ r ∈ k, 0 < r) (u : Int) : prodG k [1] g (fun s => if s = 1 then c else 0) u = c * g u := by
  have z : prodG k [1] g (fun s => if s = 1 then c else 0) u = sumQ (k.map fun r => if r = u then c * g r else 0) := by
    refine sumQ_congr fun r hr => ?_
    obtain ⟨e1, e2⟩ := mulR_one (pos r hr)
    show (if mulR r 1 = u then g r * (if (1 : Int) = 1 then c else 0) * ((gR r 1 : Int) : Rat) else 0) + 0 = _
    rw [e1, e2, if_pos rfl]
    split <;> grind
  rw [z]
  exact sum_pick (f := fun r => c * g r) hk.1 u fun h => hk.2 u fun e => h (by
    show c * g u = 0
    rw [e]
    grind)
/-- a number by its twin has no root left that p divides -/
theorem prodG_twin {k : List Int} {g : Int → Rat} {p u : Int} (ep : ∀ r ∈ k, ∀ s ∈ k, mulR r s = u → ((r % p = 0) ↔ ¬ (s % p = 0))) : prodG k k g (fun s => g s * (if s % p = 0 then -1 else 1)) u = 0 := by
  have e1 := prodG_comm k k g (fun s => g s * (if s % p = 0 then -1 else 1)) u
  have e2 : prodG k k g (fun s => g s * (if s % p = 0 then -1 else 1)) u + prodG k k (fun s => g s * (if s % p = 0 then -1 else 1)) g u = 0 := by
    unfold prodG
    rw [← sumQ_add]
    refine sumQ_zero fun r hr => ?_
    show sumQ _ + sumQ _ = 0
    rw [← sumQ_add]
    refine sumQ_zero fun s hs => ?_
    show (if mulR r s = u then _ else (0 : Rat)) + (if mulR r s = u then _ else 0) = 0
    by_cases e : mulR r s = u
    · rw [if_pos e, if_pos e]
      show g r * (g s * (if s % p = 0 then (-1 : Rat) else 1)) * ((gR r s : Int) : Rat) + g r * (if r % p = 0 then (-1 : Rat) else 1) * g s * ((gR r s : Int) : Rat) = 0
      have := ep r hr s hs e
      by_cases a : r % p = 0
      · rw [if_pos a, if_neg (this.mp a)]
        grind
      · have b : s % p = 0 := Classical.byContradiction fun z => a (this.mpr z)
        rw [if_neg a, if_pos b]
        grind
    · rw [if_neg e, if_neg e]
      grind
  grind
end TC
/-! roots of factorials: a square times a number free of squares, in one way only. -/
namespace TCX
/-- free of squares -/
def SqF (r : Nat) : Prop := ∀ d : Nat, d * d ∣ r → d = 1
theorem SqF.dvd {r s : Nat} (h : SqF r) (e : s ∣ r) : SqF s := fun d hd => h d (Nat.dvd_trans hd e)
theorem SqF.pos {r : Nat} (h : SqF r) : 0 < r := by
  refine Nat.pos_of_ne_zero fun e => ?_
  have := h 0 (by rw [e]; exact Nat.dvd_refl 0)
  cases this
/-- for coprime x, y: x x r = y y f with both free of squares makes x = y = 1 -/
theorem sq_cop {x y r f : Nat} (c : Nat.Coprime x y) (hr : SqF r) (hf : SqF f) (e : x * x * r = y * y * f) : x = 1 ∧ y = 1 := by
  have c2 : Nat.Coprime (x * x) (y * y) := Nat.Coprime.mul_left (Nat.Coprime.mul_right c c) (Nat.Coprime.mul_right c c)
  refine ⟨hf x ?_, hr y ?_⟩
  · exact Nat.Coprime.dvd_of_dvd_mul_left c2 (by rw [← e]; exact Nat.dvd_mul_right _ _)
  · exact Nat.Coprime.dvd_of_dvd_mul_left c2.symm (by rw [e]; exact Nat.dvd_mul_right _ _)
theorem sq_uniq {x y r f : Nat} (hx : 0 < x) (hr : SqF r) (hf : SqF f) (e : x * x * r = y * y * f) : x = y ∧ r = f := by
  have g0 : 0 < Nat.gcd x y := Nat.gcd_pos_of_pos_left _ hx
  obtain ⟨a, ha⟩ := Nat.gcd_dvd_left x y
  obtain ⟨b, hb⟩ := Nat.gcd_dvd_right x y
  have cop : Nat.Coprime a b := by
    have z := Nat.gcd_mul_left (Nat.gcd x y) a b
    rw [← ha, ← hb] at z
    have z2 : Nat.gcd x y * 1 = Nat.gcd x y * Nat.gcd a b := by rw [Nat.mul_one]; exact z
    exact (Nat.eq_of_mul_eq_mul_left g0 z2).symm
  have e2 : a * a * r = b * b * f := by
    have h1 : x * x * r = (Nat.gcd x y * Nat.gcd x y) * (a * a * r) := by
      conv => lhs; rw [ha]
      simp only [Nat.mul_assoc, Nat.mul_left_comm, Nat.mul_comm]
    have h2 : y * y * f = (Nat.gcd x y * Nat.gcd x y) * (b * b * f) := by
      conv => lhs; rw [hb]
      simp only [Nat.mul_assoc, Nat.mul_left_comm, Nat.mul_comm]
    rw [h1, h2] at e
    exact Nat.eq_of_mul_eq_mul_left (Nat.mul_pos g0 g0) e
  obtain ⟨ea, eb⟩ := sq_cop cop hr hf e2
  subst ea eb
  refine ⟨?_, by simpa using e2⟩
  rw [ha]
  conv => rhs; rw [hb]
/-! ### primes -/
def IsP (p : Nat) : Prop := 1 < p ∧ ∀ d, d ∣ p → d = 1 ∨ d = p
def pr30 : List Nat := [2, 3, 5, 7, 11, 13, 17, 19, 23, 29, 31, 37, 41, 43, 47, 53, 59, 61, 67, 71, 73, 79, 83, 89, 97, 101, 103, 107, 109, 113]
theorem pr30_b : ∀ p ∈ pr30, 1 < p ∧ ∀ d, d < p + 1 → d ∣ p → d = 1 ∨ d = p := by decide +kernel
theorem pr30_p : ∀ p ∈ pr30, IsP p := fun p hp => by
  obtain ⟨h1, h2⟩ := pr30_b p hp
  exact ⟨h1, fun d hd => h2 d (Nat.lt_succ_of_le (Nat.le_of_dvd (by omega) hd)) hd⟩
theorem pr30_nd : pr30.Nodup := by decide +kernel
theorem IsP.cop {p d : Nat} (h : IsP p) (hd : ¬ p ∣ d) : Nat.Coprime p d := by
  rcases h.2 _ (Nat.gcd_dvd_left p d) with e | e
  · exact e
  · exact absurd (e ▸ Nat.gcd_dvd_right p d) hd
theorem SqF.one : SqF 1 := fun d hd => by
  have := Nat.eq_one_of_dvd_one hd
  exact Nat.eq_one_of_mul_eq_one_left this
theorem SqF.mul {p m : Nat} (hp : IsP p) (hm : SqF m) (hn : ¬ p ∣ m) : SqF (p * m) := fun d hd => by
  by_cases h : p ∣ d
  · obtain ⟨k, rfl⟩ := h
    refine absurd ?_ hn
    have z : p * (p * (k * k)) ∣ p * m := by
      have e : p * k * (p * k) = p * (p * (k * k)) := by
        simp only [Nat.mul_assoc, Nat.mul_left_comm, Nat.mul_comm]
      rw [e] at hd
      exact hd
    have z2 := Nat.dvd_of_mul_dvd_mul_left (by have := hp.1; omega) z
    exact Nat.dvd_trans (Nat.dvd_mul_right _ _) z2
  · have c := hp.cop h
    have c2 : Nat.Coprime (d * d) p := (Nat.Coprime.mul_right c c).symm
    exact hm d (Nat.Coprime.dvd_of_dvd_mul_left c2 hd)
theorem IsP.dvd_mul {p a b : Nat} (h : IsP p) (hd : p ∣ a * b) : p ∣ a ∨ p ∣ b := by
  by_cases z : p ∣ a
  · exact .inl z
  · exact .inr (Nat.Coprime.dvd_of_dvd_mul_left (h.cop z) hd)
/-- the product of those of a list that are asked for -/
def pickP (f : Nat → Bool) (l : List Nat) : Nat := l.foldr (fun p m => if f p then p * m else m) 1
theorem pick_not {f : Nat → Bool} {q : Nat} (hq : IsP q) : ∀ {l : List Nat}, (∀ p ∈ l, IsP p) → q ∉ l → ¬ q ∣ pickP f l
  | [], _, _ => fun h => by
    have := Nat.eq_one_of_dvd_one h
    have := hq.1
    omega
  | p :: l, hp, hn => fun h => by
    have ih := pick_not (f := f) hq (fun r hr => hp r (List.mem_cons_of_mem _ hr)) (fun z => hn (List.mem_cons_of_mem _ z))
    have e : pickP f (p :: l) = if f p then p * pickP f l else pickP f l := rfl
    rw [e] at h
    split at h
    · rcases hq.dvd_mul h with h | h
      · rcases (hp p (by simp)).2 q h with e | e
        · have := hq.1
          omega
        · exact hn (by rw [e]; simp)
      · exact ih h
    · exact ih h
theorem pick_sqF {f : Nat → Bool} : ∀ {l : List Nat}, (∀ p ∈ l, IsP p) → l.Nodup → SqF (pickP f l)
  | [], _, _ => SqF.one
  | p :: l, hp, nd => by
    have n := List.nodup_cons.mp nd
    have hl : ∀ r ∈ l, IsP r := fun r hr => hp r (List.mem_cons_of_mem _ hr)
    have ih := pick_sqF (f := f) hl n.2
    have e : pickP f (p :: l) = if f p then p * pickP f l else pickP f l := rfl
    rw [e]
    split
    · exact SqF.mul (hp p (by simp)) ih (pick_not (hp p (by simp)) hl n.1)
    · exact ih
/-! ### factorials -/
def factN : Nat → Nat
  | 0 => 1
  | n + 1 => (n + 1) * factN n
/-- how often p is in n!, by the powers of p to 122 -/
def legN (n p : Nat) : Nat := n / p + n / (p * p) + n / (p * p * p) + n / (p * p * p * p) + n / (p * p * p * p * p) + n / (p * p * p * p * p * p)
def powP (e : Nat → Nat) (l : List Nat) : Nat := l.foldr (fun p m => p ^ e p * m) 1
theorem fact_leg : ∀ n, n < 123 → factN n = powP (legN n) pr30 := by decide +kernel
theorem powP_mul (e f : Nat → Nat) : ∀ l : List Nat, powP e l * powP f l = powP (fun p => e p + f p) l
  | [] => rfl
  | p :: l => by
    show p ^ e p * powP e l * (p ^ f p * powP f l) = p ^ (e p + f p) * powP (fun p => e p + f p) l
    rw [← powP_mul e f l, Nat.pow_add]
    simp only [Nat.mul_assoc, Nat.mul_left_comm, Nat.mul_comm]
theorem powP_congr {e f : Nat → Nat} : ∀ {l : List Nat}, (∀ p ∈ l, e p = f p) → powP e l = powP f l
  | [], _ => rfl
  | p :: l, h => by
    show p ^ e p * powP e l = p ^ f p * powP f l
    rw [h p (by simp), powP_congr fun r hr => h r (List.mem_cons_of_mem _ hr)]
theorem powP_pos {e : Nat → Nat} : ∀ {l : List Nat}, (∀ p ∈ l, IsP p) → 0 < powP e l
  | [], _ => Nat.one_pos
  | p :: l, h => by
    have h1 := (h p (by simp)).1
    exact Nat.mul_pos (Nat.pow_pos (by omega)) (powP_pos fun r hr => h r (List.mem_cons_of_mem _ hr))
theorem pick_pow (f : Nat → Bool) : ∀ l : List Nat, pickP f l = powP (fun p => if f p then 1 else 0) l
  | [] => rfl
  | p :: l => by
    have e : pickP f (p :: l) = if f p then p * pickP f l else pickP f l := rfl
    rw [e, pick_pow f l]
    show _ = p ^ (if f p then 1 else 0) * powP (fun p => if f p then 1 else 0) l
    split
    · rw [Nat.pow_one]
    · rw [Nat.pow_zero, Nat.one_mul]
/-- the factorials of a list, multiplied -/
def prodF (l : List Nat) : Nat := l.foldr (fun n m => factN n * m) 1
def sumL (l : List Nat) (p : Nat) : Nat := l.foldr (fun n m => legN n p + m) 0
theorem powP_zero : ∀ l : List Nat, powP (fun _ => 0) l = 1
  | [] => rfl
  | p :: l => by
    show p ^ 0 * powP (fun _ => 0) l = 1
    rw [powP_zero l]
    rfl
theorem prodF_leg : ∀ {l : List Nat}, (∀ n ∈ l, n < 123) → prodF l = powP (sumL l) pr30
  | [], _ => (powP_zero pr30).symm
  | n :: l, h => by
    show factN n * prodF l = _
    rw [fact_leg n (h n (by simp)), prodF_leg fun m hm => h m (List.mem_cons_of_mem _ hm), powP_mul]
    rfl
/-- the power of p in the quotient of two products of factorials -/
def expE (above below : List Nat) (p : Nat) : Int := (sumL above p : Int) - (sumL below p : Int)
def topE (above below : List Nat) : Nat := powP (fun p => (expE above below p / 2).toNat) pr30
def botE (above below : List Nat) : Nat := powP (fun p => (-(expE above below p / 2)).toNat) pr30
def rootE (above below : List Nat) : Nat := pickP (fun p => decide (expE above below p % 2 = 1)) pr30
theorem rootE_sqF (above below : List Nat) : SqF (rootE above below) := pick_sqF pr30_p pr30_nd
theorem topE_pos (above below : List Nat) : 0 < topE above below := powP_pos pr30_p
theorem botE_pos (above below : List Nat) : 0 < botE above below := powP_pos pr30_p
/-- (top / bottom) squared times the root is the quotient -/
theorem rootE_ok {above below : List Nat} (ha : ∀ n ∈ above, n < 123) (hb : ∀ n ∈ below, n < 123) :
    topE above below * topE above below * rootE above below * prodF below = botE above below * botE above below * prodF above := by
  unfold topE botE rootE
  rw [pick_pow, prodF_leg ha, prodF_leg hb]
  simp only [powP_mul]
  refine powP_congr fun p _ => ?_
  have e : expE above below p = (sumL above p : Int) - (sumL below p : Int) := rfl
  generalize sumL above p = A at e ⊢
  generalize sumL below p = B at e ⊢
  generalize expE above below p = x at e ⊢
  by_cases h : x % 2 = 1
  · rw [decide_eq_true h]
    simp only [if_true]
    omega
  · rw [decide_eq_false h]
    show _ + _ + 0 + _ = _
    omega
/-- powers of different primes have no divisor in common -/
theorem cop_pow {q : Nat} (hq : IsP q) {e : Nat → Nat} : ∀ {l : List Nat}, (∀ p ∈ l, IsP p) → q ∉ l → Nat.Coprime q (powP e l)
  | [], _, _ => Nat.coprime_one_right q
  | p :: l, hp, hn => by
    have ih := cop_pow hq (e := e) (fun r hr => hp r (List.mem_cons_of_mem _ hr)) (fun z => hn (List.mem_cons_of_mem _ z))
    have c : Nat.Coprime q p := hq.cop fun z => by
      rcases (hp p (by simp)).2 q z with e | e
      · have := hq.1
        omega
      · exact hn (by rw [e]; simp)
    exact Nat.Coprime.mul_right (Nat.Coprime.pow_right _ c) ih
theorem powP_cop {e f : Nat → Nat} : ∀ {l : List Nat}, (∀ p ∈ l, IsP p) → l.Nodup → (∀ p ∈ l, e p = 0 ∨ f p = 0) → Nat.Coprime (powP e l) (powP f l)
  | [], _, _, _ => Nat.coprime_one_right 1
  | p :: l, hp, nd, h => by
    have n := List.nodup_cons.mp nd
    have hl : ∀ r ∈ l, IsP r := fun r hr => hp r (List.mem_cons_of_mem _ hr)
    have ih := powP_cop hl n.2 fun r hr => h r (List.mem_cons_of_mem _ hr)
    have hpp := hp p (by simp)
    show Nat.Coprime (p ^ e p * powP e l) (p ^ f p * powP f l)
    rcases h p (by simp) with z | z
    · rw [z, Nat.pow_zero, Nat.one_mul]
      exact Nat.Coprime.mul_right (Nat.Coprime.pow_right _ (cop_pow hpp hl n.1).symm) ih
    · rw [z, Nat.pow_zero, Nat.one_mul]
      exact Nat.Coprime.mul_left (Nat.Coprime.pow_left _ (cop_pow hpp hl n.1)) ih
theorem topE_cop (above below : List Nat) : Nat.Coprime (topE above below) (botE above below) := powP_cop pr30_p pr30_nd fun p _ => by omega
end TCX
/-! the powers of primes by counts. -/
namespace TCX
/-- how many of l are at least m -/
def geL (l : List Nat) (m : Nat) : Int := l.foldr (fun n k => (if m ≤ n then 1 else 0) + k) 0
/-- how many of l are m -/
def eqL (l : List Nat) (m : Nat) : Int := l.foldr (fun n k => (if n = m then 1 else 0) + k) 0
theorem ge_step (l : List Nat) (m : Nat) : geL l m = eqL l m + geL l (m + 1) := by
  induction l with
  | nil => rfl
  | cons n l ih =>
    show (if m ≤ n then 1 else 0) + geL l m = (if n = m then 1 else 0) + eqL l m + ((if m + 1 ≤ n then 1 else 0) + geL l (m + 1))
    rw [ih]
    split <;> split <;> split <;> omega
theorem ge_top {l : List Nat} {h m : Nat} (hl : ∀ n ∈ l, n ≤ h) (hm : h < m) : geL l m = 0 := by
  induction l with
  | nil => rfl
  | cons n l ih =>
    show (if m ≤ n then 1 else 0) + geL l m = 0
    rw [ih fun r hr => hl r (List.mem_cons_of_mem _ hr), if_neg (by have := hl n (by simp); omega)]
    rfl
/-- the quotients by s, summed -/
def divS (l : List Nat) (s : Nat) : Int := l.foldr (fun n k => ((n / s : Nat) : Int) + k) 0
theorem one_mult (n s : Nat) (s0 : 0 < s) : ∀ J : Nat, ((List.range J).map fun j => if (j + 1) * s ≤ n then (1 : Int) else 0).sum = ((min J (n / s) : Nat) : Int)
  | 0 => by simp
  | J + 1 => by
    rw [List.range_succ, List.map_append, List.sum_append, one_mult n s s0 J]
    show _ + ((if (J + 1) * s ≤ n then (1 : Int) else 0) + 0) = _
    have e : (J + 1) * s ≤ n ↔ J + 1 ≤ n / s := (Nat.le_div_iff_mul_le s0).symm
    by_cases h : (J + 1) * s ≤ n
    · have h2 := e.mp h
      rw [if_pos h]
      omega
    · have h2 : ¬ J + 1 ≤ n / s := fun z => h (e.mpr z)
      rw [if_neg h]
      omega
theorem sum_add (f g : Nat → Int) : ∀ l : List Nat, (l.map fun j => f j + g j).sum = (l.map f).sum + (l.map g).sum
  | [] => rfl
  | x :: l => by
    rw [List.map_cons, List.sum_cons, List.map_cons, List.sum_cons, List.map_cons, List.sum_cons, sum_add f g l]
    omega
theorem mult_sum {h s : Nat} (s0 : 0 < s) : ∀ {l : List Nat}, (∀ n ∈ l, n ≤ h) → ((List.range (h / s)).map fun j => geL l ((j + 1) * s)).sum = divS l s
  | [], _ => by
    have : ∀ J : Nat, ((List.range J).map fun j => geL [] ((j + 1) * s)).sum = 0 := fun J => by
      induction J with
      | zero => rfl
      | succ J ih =>
        rw [List.range_succ, List.map_append, List.sum_append, ih]
        rfl
    exact this _
  | n :: l, hl => by
    show ((List.range (h / s)).map fun j => (if (j + 1) * s ≤ n then (1 : Int) else 0) + geL l ((j + 1) * s)).sum = ((n / s : Nat) : Int) + divS l s
    rw [sum_add, mult_sum s0 fun r hr => hl r (List.mem_cons_of_mem _ hr), one_mult n s s0]
    have := Nat.div_le_div_right (c := s) (hl n (by simp))
    rw [Nat.min_eq_right this]
theorem divS_zero {h s : Nat} {l : List Nat} (hl : ∀ n ∈ l, n ≤ h) (hs : h < s) : divS l s = 0 := by
  induction l with
  | nil => rfl
  | cons n l ih =>
    show ((n / s : Nat) : Int) + divS l s = 0
    rw [ih fun r hr => hl r (List.mem_cons_of_mem _ hr), Nat.div_eq_of_lt (by have := hl n (by simp); omega)]
    rfl
theorem sumL_div (l : List Nat) (p : Nat) : (sumL l p : Int) = divS l p + divS l (p * p) + divS l (p * p * p) + divS l (p * p * p * p) + divS l (p * p * p * p * p) + divS l (p * p * p * p * p * p) := by
  induction l with
  | nil => rfl
  | cons n l ih =>
    show ((legN n p + sumL l p : Nat) : Int) = _
    unfold legN
    show _ = (((n / p : Nat) : Int) + divS l p) + (((n / (p * p) : Nat) : Int) + divS l (p * p)) + (((n / (p * p * p) : Nat) : Int) + divS l (p * p * p)) + (((n / (p * p * p * p) : Nat) : Int) + divS l (p * p * p * p)) + (((n / (p * p * p * p * p) : Nat) : Int) + divS l (p * p * p * p * p)) + (((n / (p * p * p * p * p * p) : Nat) : Int) + divS l (p * p * p * p * p * p))
    omega
/-- what is counted at s -/
def atS (above below : List Nat) (s : Nat) : Int := divS above s - divS below s
def runE (above below : List Nat) (p : Nat) : Nat → Int
  | 0 => 0
  | k + 1 => runE above below p k + atS above below (p ^ (k + 1))
theorem runE_all (above below : List Nat) (p : Nat) : runE above below p 6 = expE above below p := by
  unfold expE
  rw [sumL_div, sumL_div]
  show 0 + atS above below (p ^ 1) + atS above below (p ^ 2) + atS above below (p ^ 3) + atS above below (p ^ 4) + atS above below (p ^ 5) + atS above below (p ^ 6) = _
  have e1 : p ^ 1 = p := Nat.pow_one p
  have e2 : p ^ 2 = p * p := by rw [Nat.pow_succ, e1]
  have e3 : p ^ 3 = p * p * p := by rw [Nat.pow_succ, e2]
  have e4 : p ^ 4 = p * p * p * p := by rw [Nat.pow_succ, e3]
  have e5 : p ^ 5 = p * p * p * p * p := by rw [Nat.pow_succ, e4]
  have e6 : p ^ 6 = p * p * p * p * p * p := by rw [Nat.pow_succ, e5]
  rw [e1, e2, e3, e4, e5, e6]
  unfold atS
  omega
/-- nothing more is counted beyond the highest -/
theorem runE_end {above below : List Nat} {h p k : Nat} (p1 : 1 < p) (ha : ∀ n ∈ above, n ≤ h) (hb : ∀ n ∈ below, n ≤ h) (hk : h < p ^ (k + 1)) (k6 : k ≤ 6) : runE above below p k = expE above below p := by
  rw [← runE_all]
  have key : ∀ d, runE above below p (k + d) = runE above below p k := fun d => by
    induction d with
    | zero => rfl
    | succ d ih =>
      show runE above below p (k + d) + atS above below (p ^ (k + d + 1)) = _
      have : p ^ (k + 1) ≤ p ^ (k + d + 1) := Nat.pow_le_pow_right (by omega) (by omega)
      unfold atS
      rw [ih, divS_zero ha (by omega), divS_zero hb (by omega)]
      omega
  have e := key (6 - k)
  rw [show k + (6 - k) = 6 by omega] at e
  exact e.symm
end TCX
/-! a number parted into a square and what is free of squares, by trying. -/
namespace TCX
structure RootI (N left free square p : Nat) : Prop where
  eq : left * free * (square * square) = N
  l0 : 0 < left
  s0 : 0 < square
  p1 : 1 < p
  sf : SqF free
  i1 : ∀ d, 1 < d → d < p → ¬ d ∣ left
  i2 : p ∣ free → ¬ p ∣ left
  i3 : ∀ d, 1 < d → d ∣ free → ∃ q, 1 < q ∧ q ≤ p ∧ q ∣ d
theorem RootI.start {N : Nat} (h : 0 < N) : RootI N N 1 1 2 :=
  ⟨by simp, h, by decide, by decide, SqF.one, fun d h1 h2 => by omega, fun z => by have := Nat.eq_one_of_dvd_one z; omega, fun d h1 h2 => by have := Nat.eq_one_of_dvd_one h2; omega⟩
/-- where p divides what is left, it is a prime -/
theorem RootI.prime {N left free square p : Nat} (h : RootI N left free square p) (hd : p ∣ left) : IsP p := by
  refine ⟨h.p1, fun d dp => ?_⟩
  by_cases h1 : d = 1
  · exact .inl h1
  · by_cases h2 : d = p
    · exact .inr h2
    · have h3 := Nat.le_of_dvd (by have := h.p1; omega) dp
      have h4 : 0 < d := Nat.pos_of_dvd_of_pos dp (by have := h.p1; omega)
      exact absurd (Nat.dvd_trans dp hd) (h.i1 d (by omega) (by omega))
theorem RootI.le {N left free square p : Nat} (h : RootI N left free square p) (hl : 1 < left) : p ≤ left := by
  refine Nat.le_of_not_lt fun z => ?_
  exact h.i1 left hl z (Nat.dvd_refl _)
theorem RootI.sq {N left free square p : Nat} (h : RootI N left free square p) (hd : p * p ∣ left) : RootI N (left / (p * p)) free (square * p) p := by
  have pp : 0 < p * p := Nat.mul_pos (by have := h.p1; omega) (by have := h.p1; omega)
  obtain ⟨k, rfl⟩ := hd
  rw [Nat.mul_div_cancel_left k pp]
  have kd : ∀ d, d ∣ k → d ∣ p * p * k := fun d z => Nat.dvd_trans z (Nat.dvd_mul_left _ _)
  have k0 : 0 < k := Nat.pos_of_ne_zero fun e => by
    have := h.l0
    rw [e, Nat.mul_zero] at this
    omega
  refine ⟨?_, k0, Nat.mul_pos h.s0 (by have := h.p1; omega), h.p1, h.sf, fun d h1 h2 z => h.i1 d h1 h2 (kd d z), fun z y => h.i2 z (kd p y), h.i3⟩
  rw [← h.eq]
  simp only [Nat.mul_assoc, Nat.mul_left_comm, Nat.mul_comm]
theorem RootI.once {N left free square p : Nat} (h : RootI N left free square p) (hn : ¬ p * p ∣ left) (hd : p ∣ left) : RootI N (left / p) (free * p) square p := by
  have hp := h.prime hd
  have p0 : 0 < p := by have := h.p1; omega
  have nf : ¬ p ∣ free := fun z => h.i2 z hd
  obtain ⟨k, rfl⟩ := hd
  rw [Nat.mul_div_cancel_left k p0]
  have kd : ∀ d, d ∣ k → d ∣ p * k := fun d z => Nat.dvd_trans z (Nat.dvd_mul_left _ _)
  have k0 : 0 < k := Nat.pos_of_ne_zero fun e => by
    have := h.l0
    rw [e, Nat.mul_zero] at this
    omega
  refine ⟨?_, k0, h.s0, h.p1, ?_, fun d h1 h2 z => h.i1 d h1 h2 (kd d z), fun _ y => hn (Nat.mul_dvd_mul_left p y), fun d h1 h2 => ?_⟩
  · rw [← h.eq]
    simp only [Nat.mul_assoc, Nat.mul_left_comm, Nat.mul_comm]
  · rw [Nat.mul_comm]
    exact SqF.mul hp h.sf nf
  · by_cases z : p ∣ d
    · exact ⟨p, h.p1, Nat.le_refl _, z⟩
    · have c := (hp.cop z).symm
      rw [Nat.mul_comm] at h2
      exact h.i3 d h1 (Nat.Coprime.dvd_of_dvd_mul_left c h2)
theorem RootI.up {N left free square p : Nat} (h : RootI N left free square p) (hd : ¬ p ∣ left) : RootI N left free square (p + 1) := by
  have i1 : ∀ d, 1 < d → d < p + 1 → ¬ d ∣ left := fun d h1 h2 => by
    by_cases e : d = p
    · rw [e]
      exact hd
    · exact h.i1 d h1 (by omega)
  refine ⟨h.eq, h.l0, h.s0, by have := h.p1; omega, h.sf, i1, fun z y => ?_, fun d h1 h2 => ?_⟩
  · obtain ⟨q, q1, q2, q3⟩ := h.i3 (p + 1) (by have := h.p1; omega) z
    exact i1 q q1 (by omega) (Nat.dvd_trans q3 y)
  · obtain ⟨q, q1, q2, q3⟩ := h.i3 d h1 h2
    exact ⟨q, q1, by omega, q3⟩
theorem RootI.done {N left free square p : Nat} (h : RootI N left free square p) (hl : ¬ 1 < left) : N = square * square * free ∧ SqF free ∧ 0 < square := by
  have e : left = 1 := by have := h.l0; omega
  refine ⟨?_, h.sf, h.s0⟩
  rw [← h.eq, e, Nat.one_mul, Nat.mul_comm]
/-- the root by the primes and the root by trying are one: root and fraction -/
theorem root_one {above below : List Nat} (ha : ∀ n ∈ above, n < 123) (hb : ∀ n ∈ below, n < 123) {up under free square : Nat} (hu : 0 < under) (hq : up * prodF below = under * prodF above) (hN : up * under = square * square * free) (hs : 0 < square) (hf : SqF free) :
    rootE above below = free ∧ topE above below * under = square * botE above below := by
  have pb : 0 < prodF below := by
    rw [prodF_leg hb]
    exact powP_pos pr30_p
  have pa : 0 < prodF above := by
    rw [prodF_leg ha]
    exact powP_pos pr30_p
  have e := rootE_ok ha hb
  -- (top * under)^2 root = (square * bot)^2 free
  have key : (topE above below * under) * (topE above below * under) * rootE above below = (square * botE above below) * (square * botE above below) * free := by
    have z : (topE above below * under) * (topE above below * under) * rootE above below * prodF below = (square * botE above below) * (square * botE above below) * free * prodF below := by
      calc (topE above below * under) * (topE above below * under) * rootE above below * prodF below
          = under * under * (topE above below * topE above below * rootE above below * prodF below) := by simp only [Nat.mul_assoc, Nat.mul_left_comm, Nat.mul_comm]
        _ = under * under * (botE above below * botE above below * prodF above) := by rw [e]
        _ = (botE above below * botE above below * under) * (under * prodF above) := by simp only [Nat.mul_assoc, Nat.mul_left_comm, Nat.mul_comm]
        _ = (botE above below * botE above below * under) * (up * prodF below) := by rw [hq]
        _ = (botE above below * botE above below) * (up * under) * prodF below := by simp only [Nat.mul_assoc, Nat.mul_left_comm, Nat.mul_comm]
        _ = (botE above below * botE above below) * (square * square * free) * prodF below := by rw [hN]
        _ = _ := by simp only [Nat.mul_assoc, Nat.mul_left_comm, Nat.mul_comm]
    exact Nat.eq_of_mul_eq_mul_right pb z
  obtain ⟨h1, h2⟩ := sq_uniq (Nat.mul_pos (topE_pos _ _) hu) (rootE_sqF _ _) hf key
  exact ⟨h2, h1⟩
end TCX
namespace TC
open PySem PySem.Spec PyProof.Rows L2 TCX
section
variable {P : Program} {w : World} {K : PySem.W.Frag} {mg : Str → Option Value} {base : Heap} {f : Addr} {fd : FuncData}
/-! ### is_odd -/
def spOdd : Sp := fun vs H Q _ => ∃ n : Int, vs = [.int n] ∧ Q (.bl (decide (n % 2 = 1))) H
abbrev nOdd : List Str := ["number"]
theorem scOdd : FnScope nOdd ["number"] (defScope sOdd) := ⟨rfl, rfl, rfl, by decide +kernel, rfl, by decide +kernel, by decide +kernel⟩
theorem ok_odd (F : FnP K "is_odd" sOdd f fd) : FnOk P w K mg base CX0 1 f fd ["number"] spOdd := by
  refine F.ok scOdd (fun vs H Q E h => ?_) (fun cdv A outer s H vs Q E hr h => ?_)
  · obtain ⟨_, rfl, _⟩ := h
    rfl
  · obtain ⟨n, rfl, q⟩ := h
    refine ⟨_, PSs.nox (pss_one (ps_ret (pe_cmpR op_eq (pe_op op_mod (pv 0) pe_int) pe_int (nomark _)))), ?_⟩
    refine ⟨_, rfl, n, 2, rfl, rfl, (by show (0 : Int) < 2; decide), rfl, ?_⟩
    have e : decide (V.int (n % 2) = V.int 1) = decide (n % 2 = 1) := by
      by_cases h : n % 2 = 1
      · rw [h]
        rfl
      · rw [decide_eq_false h, decide_eq_false fun z => h (V.int.inj z)]
    show Q (.bl (decide (V.int (n % 2) = V.int 1))) _
    rw [e]
    exact q
/-! ### _law_factorial -/
def spFactL : Sp := fun vs H Q _ => ∃ n : Nat, vs = [.int n] ∧ n ≤ 200 ∧ Q (.int (factN n : Nat)) H
abbrev nFactorial : List Str := ["_law_n", "_law_found", "_law_k"]
theorem scFactorial : FnScope nFactorial ["_law_n"] (defScope sFactorial) := ⟨rfl, rfl, rfl, by decide +kernel, rfl, by decide +kernel, by decide +kernel⟩
theorem ok_factL (F : FnP K "_law_factorial" sFactorial f fd) (grange : mg "range" = none) : FnOk P w K mg base CX0 1 f fd ["_law_n"] spFactL := by
  refine F.ok scFactorial (fun vs H Q E h => ?_) (fun cdv A outer s H vs Q E hr h => ?_)
  · obtain ⟨_, rfl, _⟩ := h
    rfl
  · obtain ⟨n, rfl, n1, q⟩ := h
    refine ⟨_, PSs.nox (pss_cons (ps_set (i := 1) scFactorial.nd rfl (.inl rfl) pe_int)
      (pss_cons (ps_for PassesOwn.never rfl (pi_range2 (by rfl) grange (pa_cons pe_int (pa_cons (pe_op op_add (pv 0) pe_int) pa_nil))) (pg_name (i := 2) scFactorial.nd rfl (.inl rfl))
        (pss_one (ps_set (i := 1) scFactorial.nd rfl (.inl rfl) (pe_op op_mul (pv 1) (pv 2)))))
      (pss_one (ps_ret (pv 1))))), ?_⟩
    refine ⟨_, rfl, n, 1, rfl, rfl, ?_⟩
    refine ⟨2, (n : Int) + 1, rfl, ⟨by decide, by decide, by omega, by omega⟩, for_range (fun i σ H' => ∃ (v2 : Option V), σ = [some (.int n), some (.int (factN (i + 1) : Nat)), v2] ∧ H' = H ∧ i + 1 ≤ max n 1) ⟨none, rfl, rfl, by omega⟩ (fun i σ H' hi hP => ?_) (fun σ H' hP => ?_)⟩
    · obtain ⟨v2, rfl, rfl, hm⟩ := hP
      have hi' : i < n - 1 := by omega
      refine ⟨_, rfl, _, rfl, _, _, rfl, rfl, .inr ⟨by omega, by omega⟩, ⟨some (.int (2 + (i : Int))), ?_, rfl, by omega⟩⟩
      have e : ((factN (i + 1) : Nat) : Int) * (2 + (i : Int)) = (factN (i + 1 + 1) : Nat) := by
        show _ = (((i + 1 + 1) * factN (i + 1) : Nat) : Int)
        push_cast
        rw [Int.mul_comm]
        congr 1
        omega
      show [some (V.int n), some (V.int (((factN (i + 1) : Nat) : Int) * (2 + (i : Int)))), some (V.int (2 + (i : Int)))] = _
      rw [e]
    · obtain ⟨v2, rfl, rfl, hm⟩ := hP
      refine ⟨_, rfl, ?_⟩
      have e : factN (((n : Int) + 1 - 2).toNat + 1) = factN n := by
        match n with
        | 0 => rfl
        | k + 1 =>
          rw [show (((k + 1 : Nat) : Int) + 1 - 2).toNat + 1 = k + 1 by omega]
      rw [e]
      exact q
/-! ### factorials -/
def spFacts : Sp := fun vs H Q _ => ∃ n : Nat, vs = [.int n] ∧ n ≤ 200 ∧ ∀ l, H l = none → Q (.ref l) (upd H l (.lst ((List.range (n + 1)).map fun m => V.int (factN m : Nat))))
abbrev nFacts : List Str := ["high", "found", "number"]
theorem scFacts : FnScope nFacts ["high"] (defScope sFacts) := ⟨rfl, rfl, rfl, by decide +kernel, rfl, by decide +kernel, by decide +kernel⟩
theorem ok_facts (F : FnP K "factorials" sFacts f fd) (grange : mg "range" = none) : FnOk P w K mg base CX0 1 f fd ["high"] spFacts := by
  refine F.ok scFacts (fun vs H Q E h => ?_) (fun cdv A outer s H vs Q E hr h => ?_)
  · obtain ⟨_, rfl, _⟩ := h
    rfl
  · obtain ⟨n, rfl, n1, q⟩ := h
    refine ⟨_, PSs.nox (pss_cons (ps_set (i := 1) scFacts.nd rfl (.inl rfl) (pe_lst (pa_cons pe_int pa_nil)))
      (pss_cons (ps_for PassesOwn.never rfl (pi_range2 (by rfl) grange (pa_cons pe_int (pa_cons (pe_op op_add (pv 0) pe_int) pa_nil))) (pg_name (i := 2) scFacts.nd rfl (.inl rfl))
        (pss_one (ps_expr (pe_bm PySem.F.plainAttrs_list PySem.F.slot_list_append PySem.F.type_list_append mt_append (pv 1) (pa_cons (pe_op op_mul (pe_ix ix_list (pv 1) (pe_un un_neg pe_int) (fun _ _ => rfl)) (pv 2)) pa_nil)))))
      (pss_one (ps_ret (pv 1))))), ?_⟩
    refine ⟨by show 1 ≤ sizeLine; decide, fun l hl => ?_⟩
    refine ⟨_, rfl, n, 1, rfl, rfl, 1, (n : Int) + 1, rfl, ⟨by decide, by decide, by omega, by omega⟩, for_range (fun i σ H' => ∃ (v2 : Option V), σ = [some (.int n), some (.ref l), v2] ∧ H' = upd H l (.lst ((List.range (i + 1)).map fun m => V.int (factN m : Nat))) ∧ i ≤ n) ⟨none, rfl, rfl, by omega⟩ (fun i σ H' hi hP => ?_) (fun σ H' hP => ?_)⟩
    · obtain ⟨v2, rfl, rfl, hm⟩ := hP
      have hi' : i < n := by omega
      have hat : atI ((List.range (i + 1)).map fun m => V.int (factN m : Nat)) (-1) = some (.int (factN i : Nat)) := by
        rw [List.range_succ, List.map_append]
        exact atI_last _ _
      refine ⟨_, rfl, .inl ⟨rfl, _, SqL.of upd_same⟩, _, rfl, 1, rfl, l, _, -1, _, rfl, rfl, SqL.of upd_same, hat, _, rfl, _, _, rfl, rfl, .inr ⟨by omega, by omega⟩, l, _, _, rfl, rfl, upd_same, ?_, _, rfl, ?_, by omega⟩
      · rw [List.length_map, List.length_range, sizeLine_eq]
        omega
      · funext b
        by_cases hb : b = l
        · rw [hb, upd_same, upd_same, List.range_succ (n := i + 1), List.map_append]
          congr 3
          show [V.int _] = [V.int _]
          congr 2
          show _ = (((i + 1) * factN i : Nat) : Int)
          push_cast
          rw [Int.mul_comm]
          congr 1
          omega
        · rw [upd_ne hb, upd_ne hb, upd_ne hb]
    · obtain ⟨v2, rfl, rfl, hm⟩ := hP
      refine ⟨_, rfl, ?_⟩
      have e : ((n : Int) + 1 - 1).toNat = n := by omega
      rw [e]
      exact q l hl
end
end TC
namespace TC
set_option exponentiation.threshold 20000
open PySem PySem.Spec PyProof.Rows L2 TCX
theorem iteB {b : Bool} {A B : Prop} (h1 : b = true → A) (h2 : b = false → B) : if b = true then A else B := by
  cases b
  · exact iteF (h2 rfl)
  · exact iteT (h1 rfl)
theorem nat_bits {n : Nat} {A : Nat} (h : n < 2 ^ A) : (n : Int).natAbs < 2 ^ A := by
  rw [Int.natAbs_natCast]
  exact h
def muR : L2.St → Nat
  | [_, _, some (.int l), _, _, some (.int p)] => (2 * l - p).toNat
  | _ => 0
theorem RootI.bound {N left free square p : Nat} (h : RootI N left free square p) (h0 : 0 < N) : left ≤ N ∧ free ≤ N ∧ square ≤ N := by
  have e := h.eq
  have f0 := h.sf.pos
  have s0 := h.s0
  have l0 := h.l0
  refine ⟨Nat.le_of_dvd h0 ⟨free * (square * square), by rw [← e, Nat.mul_assoc]⟩, Nat.le_of_dvd h0 ⟨left * (square * square), ?_⟩, Nat.le_of_dvd h0 ⟨left * free * square, ?_⟩⟩
  · rw [← e]
    simp only [Nat.mul_assoc, Nat.mul_left_comm, Nat.mul_comm]
  · rw [← e]
    simp only [Nat.mul_assoc, Nat.mul_left_comm, Nat.mul_comm]
theorem mod_dvd {a b : Nat} : decide (V.int ((a : Int) % (b : Int)) = V.int 0) = decide (b ∣ a) := by
  by_cases h : b ∣ a
  · rw [decide_eq_true h]
    refine decide_eq_true ?_
    obtain ⟨k, rfl⟩ := h
    rw [Int.natCast_mul, Int.mul_emod_right]
  · rw [decide_eq_false h]
    refine decide_eq_false fun z => h ?_
    have z2 : (a : Int) % (b : Int) = 0 := V.int.inj z
    exact Int.natCast_dvd_natCast.mp (Int.dvd_of_emod_eq_zero z2)
section
variable {P : Program} {w : World} {K : PySem.W.Frag} {mg : Str → Option Value} {base : Heap} {f : Addr} {fd : FuncData}
/-! ### _law_rooted -/
def spRooted : Sp := fun vs H Q _ => ∃ up under : Nat, vs = [.int up, .int under] ∧ 0 < up ∧ 0 < under ∧ up < 2 ^ 3000 ∧ under < 2 ^ 3000 ∧
  ∀ (sq fr : Nat) (d T : Addr) H', H d = none → up * under = sq * sq * fr → SqF fr → 0 < sq → Same H H' → H' d = some (.dK [((Sum.inl (fr : Int) : Key), .ref T)]) → H' T = some (.tup [.int (TCM.lowL sq under).1, .int (TCM.lowL sq under).2]) → Q (.ref d) H'
abbrev nRooted : List Str := ["_law_up", "_law_under", "_law_left", "_law_free", "_law_square", "_law_p"]
theorem scRooted : FnScope nRooted ["_law_up", "_law_under"] (defScope sRooted) := ⟨rfl, rfl, rfl, by decide +kernel, rfl, by decide +kernel, by decide +kernel⟩
theorem ok_rooted {fL : Addr} {fdL : FuncData} (F : FnP K "_law_rooted" sRooted f fd) (GL : FnOk P w K mg base CX0 1 fL fdL ["_law_up", "_law_under"] spLowL) (bL : L2.Binds K fdL ["_law_up", "_law_under"] []) (kL : PySem.W.keepIn K (.ref fL) = true) (gL : mg "_law_low" = some (.ref fL)) : FnOk P w K mg base CX0 2 f fd ["_law_up", "_law_under"] spRooted := by
  refine F.ok scRooted (fun vs H Q E h => ?_) (fun cdv A outer s H vs Q E hr h => ?_)
  · obtain ⟨_, _, rfl, _⟩ := h
    rfl
  · obtain ⟨up, under, rfl, u0, d0, u1, d1, q⟩ := h
    refine ⟨_, PSs.nox (C8.pss_cut (ps_asg (pe_tup (pa_cons (pe_op op_mulW (pv 0) (pv 1)) (pa_cons pe_int (pa_cons pe_int (pa_cons pe_int pa_nil))))) (pg_tup rfl (pgs_cons (pg_name (i := 2) scRooted.nd rfl (.inl rfl)) (pgs_cons (pg_name (i := 3) scRooted.nd rfl (.inl rfl)) (pgs_cons (pg_name (i := 4) scRooted.nd rfl (.inl rfl)) (pgs_cons (pg_name (i := 5) scRooted.nd rfl (.inl rfl)) pgs_nil))))))
      (C8.pss_cut (ps_while PassesOwn.never (pt_cmpR op_gt (pv 2) pe_int (nomark _))
        (pss_one (ps_if (pt_cmpR op_eq (pe_op op_mod (pv 2) (pe_op op_mulW (pv 5) (pv 5))) pe_int (nomark _))
          (pss_one (ps_par (i := 2) (j := 4) (by rfl) scRooted.nd rfl rfl (by decide) rfl rfl (pa_cons (pe_op op_fdivW (pv 2) (pe_op op_mulW (pv 5) (pv 5))) (pa_cons (pe_op op_mulW (pv 4) (pv 5)) pa_nil)) (by rfl)))
          (pss_one (ps_if (pt_cmpR op_eq (pe_op op_mod (pv 2) (pv 5)) pe_int (nomark _))
            (pss_one (ps_par (i := 2) (j := 3) (by rfl) scRooted.nd rfl rfl (by decide) rfl rfl (pa_cons (pe_op op_fdivW (pv 2) (pv 5)) (pa_cons (pe_op op_mulW (pv 3) (pv 5)) pa_nil)) (by rfl)))
            (pss_one (ps_set (i := 5) scRooted.nd rfl (.inl rfl) (pe_op op_add (pv 5) pe_int))))))))
      (pss_one (ps_ret (pe_disp (pps_cons (pv 3) (pe_call GL hr (by rfl) gL kL bL .nil pass0 (pa_cons (pv 4) (pa_cons (pv 1) pa_nil))) pps_nil) (by rfl) (by rfl) (fun z => by cases z) (by decide)))))), ?_⟩
    have N1 : up * under < 2 ^ 6000 := by
      have z := Nat.mul_lt_mul'' u1 d1
      rw [← Nat.pow_add] at z
      exact z
    have N0 : 0 < up * under := Nat.mul_pos u0 d0
    refine ⟨fun σ H' => σ = [some (.int up), some (.int under), some (.int ((up * under : Nat) : Int)), some (.int 1), some (.int 1), some (.int 2)] ∧ Same H H', ?_, fun σ H1 hM => ?_⟩
    · refine ⟨_, rfl, _, rfl, up, under, rfl, rfl, cmulw (nat_bits u1) (nat_bits d1) (by decide) (by decide) (by decide), by show 4 ≤ sizeLine; decide, fun l hl => ?_⟩
      refine ⟨l, _, rfl, SqT.of upd_same, rfl, _, _, rfl, _, _, rfl, _, _, rfl, _, _, rfl, rfl, ?_, same_upd hl⟩
      show [some (V.int up), some (V.int under), some (V.int ((up : Int) * (under : Int))), some (V.int 1), some (V.int 1), some (V.int 2)] = _
      rw [Int.natCast_mul]
    obtain ⟨rfl, s1⟩ := hM
    refine ⟨fun σ H' => ∃ sq fr p : Nat, σ = [some (.int up), some (.int under), some (.int 1), some (.int fr), some (.int sq), some (.int p)] ∧ H' = H1 ∧ up * under = sq * sq * fr ∧ SqF fr ∧ 0 < sq, ?_, fun σ H2 hM => ?_⟩
    · refine while_by (fun σ H' => ∃ left fr sq p : Nat, σ = [some (.int up), some (.int under), some (.int left), some (.int fr), some (.int sq), some (.int p)] ∧ H' = H1 ∧ RootI (up * under) left fr sq p) (fun σ _ => muR σ) ⟨up * under, 1, 1, 2, rfl, rfl, RootI.start N0⟩ (fun σ H' hP => ?_) (fun σ H' Q Q' m h => by
        obtain ⟨x, hx, i, j, e1, e2, k, ek, hq⟩ := h
        exact ⟨x, hx, i, j, e1, e2, k, ek, m _ _ hq⟩)
      obtain ⟨left, fr, sq, p, rfl, rfl, hI⟩ := hP
      obtain ⟨bl, bf, bs⟩ := RootI.bound hI N0
      have p1 := hI.p1
      refine ⟨_, rfl, left, 1, rfl, rfl, _, rfl, iteB (fun y => ?_) fun y => ?_⟩
      rotate_left
      · have y' := of_decide_eq_false y
        have hl : ¬ 1 < left := by omega
        obtain ⟨e, hf, hs⟩ := hI.done hl
        have el : left = 1 := by have := hI.l0; omega
        exact ⟨sq, fr, p, by rw [el]; rfl, rfl, e, hf, hs⟩
      have hl : 1 < left := by
        have := of_decide_eq_true y
        omega
      have ple := hI.le hl
      have b1 : left < 2 ^ 6000 := Nat.lt_of_le_of_lt bl N1
      have b2 : p < 2 ^ 6000 := Nat.lt_of_le_of_lt ple b1
      have b3 : fr < 2 ^ 6000 := Nat.lt_of_le_of_lt bf N1
      have b4 : sq < 2 ^ 6000 := Nat.lt_of_le_of_lt bs N1
      have cm : ∀ {x y : Nat}, x < 2 ^ 6000 → y < 2 ^ 6000 → CMulW (x : Int) (y : Int) := fun h1 h2 => cmulw (nat_bits h1) (nat_bits h2) (by decide) (by decide) (by decide)
      have pp0 : (0 : Int) < (p : Int) * (p : Int) := Int.mul_pos (by omega) (by omega)
      refine ⟨_, rfl, _, rfl, _, rfl, p, p, rfl, rfl, cm b2 b2, left, _, rfl, rfl, pp0, rfl, _, rfl, ?_⟩
      have e1 : decide (V.int ((left : Int) % ((p : Int) * (p : Int))) = V.int 0) = decide (p * p ∣ left) := by
        rw [← Int.natCast_mul]
        exact mod_dvd
      show if decide (V.int ((left : Int) % ((p : Int) * (p : Int))) = V.int 0) = true then _ else _
      rw [e1]
      by_cases h1 : p * p ∣ left
      · refine iteD1 h1 ?_
        have hle : p * p ≤ left := Nat.le_of_dvd (by omega) h1
        have hdv : left / (p * p) < left := Nat.div_lt_self (by omega) (by have := Nat.mul_le_mul p1 (Nat.le_of_lt p1); omega)
        have cd : CDivW (left : Int) ((p : Int) * (p : Int)) := ⟨pp0, by
          rw [← Int.natCast_mul, Int.natAbs_natCast]
          exact Nat.lt_of_lt_of_le (PySem.Flt.log2_lt_of (show 0 < 6000 by decide) (Nat.lt_of_le_of_lt hle b1)) (by decide)⟩
        refine ⟨_, rfl, _, rfl, _, rfl, p, p, rfl, rfl, cm b2 b2, left, _, rfl, rfl, cd, _, rfl, _, rfl, sq, p, rfl, rfl, cm b4 b2, _, _, rfl, ⟨left / (p * p), fr, sq * p, p, ?_, rfl, hI.sq h1⟩, ?_⟩
        · show [some (V.int up), some (V.int under), some (V.int ((left : Int) / ((p : Int) * (p : Int)))), some (V.int fr), some (V.int ((sq : Int) * (p : Int))), some (V.int p)] = _
          rw [Int.natCast_ediv, Int.natCast_mul, Int.natCast_mul]
        · show (2 * ((left : Int) / ((p : Int) * (p : Int))) - (p : Int)).toNat < (2 * (left : Int) - (p : Int)).toNat
          rw [← Int.natCast_mul, ← Int.natCast_ediv]
          omega
      refine iteD0 h1 ?_
      refine ⟨_, rfl, _, rfl, left, p, rfl, rfl, (by show (0 : Int) < (p : Int); omega), rfl, _, rfl, ?_⟩
      show if decide (V.int ((left : Int) % (p : Int)) = V.int 0) = true then _ else _
      rw [mod_dvd]
      by_cases h2 : p ∣ left
      · refine iteD1 h2 ?_
        have hdv : left / p < left := Nat.div_lt_self (by omega) p1
        have cd : CDivW (left : Int) (p : Int) := ⟨by omega, by
          rw [Int.natAbs_natCast]
          exact Nat.lt_of_lt_of_le (PySem.Flt.log2_lt_of (show 0 < 6000 by decide) b2) (by decide)⟩
        refine ⟨_, rfl, _, rfl, left, p, rfl, rfl, cd, _, rfl, _, rfl, fr, p, rfl, rfl, cm b3 b2, _, _, rfl, ⟨left / p, fr * p, sq, p, ?_, rfl, hI.once h1 h2⟩, ?_⟩
        · show [some (V.int up), some (V.int under), some (V.int ((left : Int) / (p : Int))), some (V.int ((fr : Int) * (p : Int))), some (V.int sq), some (V.int p)] = _
          rw [Int.natCast_ediv, Int.natCast_mul]
        · show (2 * ((left : Int) / (p : Int)) - (p : Int)).toNat < (2 * (left : Int) - (p : Int)).toNat
          rw [← Int.natCast_ediv]
          omega
      · refine iteD0 h2 ?_
        refine ⟨_, rfl, p, 1, rfl, rfl, ⟨left, fr, sq, p + 1, rfl, rfl, hI.up h2⟩, ?_⟩
        show (2 * (left : Int) - ((p : Int) + 1)).toNat < (2 * (left : Int) - (p : Int)).toNat
        omega
    obtain ⟨sq, fr, p, rfl, rfl, e, hf, hs⟩ := hM
    intro d hd
    have t1 := same_upd (o := .dK []) hd
    have bu : (under : Int).natAbs < 2 ^ 3000 := nat_bits d1
    refine ⟨_, rfl, _, rfl, _, rfl, sq, under, 3000, rfl, by omega, bu, by decide, by decide, fun T hT => ?_⟩
    have t2 := same_upd (o := .tup [.int (TCM.lowL sq under).1, .int (TCM.lowL sq under).2]) hT
    have hdT : d ≠ T := fun z => by
      rw [← z, upd_same] at hT
      cases hT
    refine ⟨t2 _ _ upd_same, [((Sum.inl (fr : Int) : Key), .ref T)], rfl, by show 1 ≤ 15; decide, ?_⟩
    refine q sq fr d T _ (s1.free hd) e hf hs (s1.trans fun b o z => ?_) (by rw [upd_same]; rfl) (by rw [upd_ne hdT.symm, upd_same])
    rw [upd_ne (ne_of_none z hd)]
    exact t2 _ _ (t1 _ _ z)
end
end TC
/-! the sum of two joined: by whole terms over one bottom. -/
namespace TCX
theorem fact_pos : ∀ n, 0 < factN n
  | 0 => Nat.one_pos
  | n + 1 => Nat.mul_pos (Nat.succ_pos n) (fact_pos n)
theorem fact_dvdS : ∀ s m n, m + n = s → factN m * factN n ∣ factN (m + n) := by
  intro s
  induction s with
  | zero =>
    intro m n h
    obtain ⟨rfl, rfl⟩ : m = 0 ∧ n = 0 := by omega
    exact Nat.dvd_refl _
  | succ s ih =>
    intro m n h
    match m, n with
    | 0, n =>
      rw [show factN 0 = 1 from rfl, Nat.one_mul, Nat.zero_add]
      exact Nat.dvd_refl _
    | m + 1, 0 =>
      rw [show factN 0 = 1 from rfl, Nat.mul_one, Nat.add_zero]
      exact Nat.dvd_refl _
    | m + 1, n + 1 =>
      have h1 := ih m (n + 1) (by omega)
      have h2 := ih (m + 1) n (by omega)
      have e : factN (m + 1 + (n + 1)) = (m + 1) * factN (m + (n + 1)) + (n + 1) * factN (m + 1 + n) := by
        rw [show m + 1 + (n + 1) = (m + n + 1) + 1 by omega]
        show (m + n + 1 + 1) * factN (m + n + 1) = _
        rw [show m + (n + 1) = m + n + 1 by omega, show m + 1 + n = m + n + 1 by omega, ← Nat.add_mul]
        congr 1
        omega
      rw [e]
      refine Nat.dvd_add ?_ ?_
      · show (m + 1) * factN m * factN (n + 1) ∣ _
        rw [Nat.mul_assoc]
        exact Nat.mul_dvd_mul_left _ h1
      · have z : factN (m + 1) * factN (n + 1) = (n + 1) * (factN (m + 1) * factN n) := by
          show factN (m + 1) * ((n + 1) * factN n) = _
          simp only [Nat.mul_assoc, Nat.mul_left_comm, Nat.mul_comm]
        rw [z]
        exact Nat.mul_dvd_mul_left _ h2
theorem fact_dvd (m n : Nat) : factN m * factN n ∣ factN (m + n) := fact_dvdS _ m n rfl
def okK (A B C : Nat) (D E : Int) (k : Nat) : Bool := decide (k ≤ A ∧ k ≤ B ∧ k ≤ C ∧ 0 ≤ D + k ∧ 0 ≤ E + k)
def botK (A B C : Nat) (D E : Int) (k : Nat) : Nat := factN k * factN (A - k) * factN (B - k) * factN (C - k) * factN (D + k).toNat * factN (E + k).toNat
def comK (A B C : Nat) (D E : Int) : Nat := factN A * factN (B + D).toNat * factN (C + E).toNat
theorem botK_pos (A B C : Nat) (D E : Int) (k : Nat) : 0 < botK A B C D E k := by
  unfold botK
  exact Nat.mul_pos (Nat.mul_pos (Nat.mul_pos (Nat.mul_pos (Nat.mul_pos (fact_pos _) (fact_pos _)) (fact_pos _)) (fact_pos _)) (fact_pos _)) (fact_pos _)
theorem comK_pos (A B C : Nat) (D E : Int) : 0 < comK A B C D E := Nat.mul_pos (Nat.mul_pos (fact_pos _) (fact_pos _)) (fact_pos _)
theorem botK_dvd {A B C : Nat} {D E : Int} {k : Nat} (h : okK A B C D E k = true) : botK A B C D E k ∣ comK A B C D E := by
  obtain ⟨h1, h2, h3, h4, h5⟩ := of_decide_eq_true h
  have e : botK A B C D E k = (factN k * factN (A - k)) * (factN (B - k) * factN (D + k).toNat) * (factN (C - k) * factN (E + k).toNat) := by
    unfold botK
    simp only [Nat.mul_assoc, Nat.mul_left_comm, Nat.mul_comm]
  rw [e]
  unfold comK
  have a1 := fact_dvd k (A - k)
  have a2 := fact_dvd (B - k) (D + k).toNat
  have a3 := fact_dvd (C - k) (E + k).toNat
  rw [show k + (A - k) = A by omega] at a1
  rw [show B - k + (D + k).toNat = (B + D).toNat by omega] at a2
  rw [show C - k + (E + k).toNat = (C + E).toNat by omega] at a3
  exact Nat.mul_dvd_mul (Nat.mul_dvd_mul a1 a2) a3
def sgK (k : Nat) : Int := if k % 2 = 1 then -1 else 1
def tmK (A B C : Nat) (D E : Int) (k : Nat) : Int := if okK A B C D E k = true then sgK k * ((comK A B C D E / botK A B C D E k : Nat) : Int) else 0
def sumK (f : Nat → Int) (n : Nat) : Int := ((List.range n).map f).sum
theorem sumK_succ (f : Nat → Int) (n : Nat) : sumK f (n + 1) = sumK f n + f n := by
  unfold sumK
  rw [List.range_succ, List.map_append, List.sum_append]
  show _ + (f n + 0) = _
  omega
theorem sumK_add (f : Nat → Int) (a : Nat) : ∀ b, sumK f (a + b) = sumK f a + sumK (fun i => f (a + i)) b
  | 0 => by
    show sumK f a = sumK f a + 0
    omega
  | b + 1 => by
    rw [← Nat.add_assoc, sumK_succ, sumK_succ, sumK_add f a b]
    omega
theorem sumK_zero {f : Nat → Int} : ∀ {n : Nat}, (∀ i, i < n → f i = 0) → sumK f n = 0
  | 0, _ => rfl
  | n + 1, h => by
    rw [sumK_succ, sumK_zero fun i hi => h i (by omega), h n (by omega)]
    rfl
/-- the sum is that of those k that are let -/
theorem sumK_let {A B C : Nat} {D E lo hi : Int} (l0 : 0 ≤ lo) (h1 : ∀ k : Nat, okK A B C D E k = true ↔ lo ≤ k ∧ (k : Int) ≤ hi) (hA : hi ≤ A) :
    sumK (tmK A B C D E) (A + 1) = sumK (fun i => tmK A B C D E (lo.toNat + i)) (hi + 1 - lo).toNat := by
  have out : ∀ k : Nat, ¬ (lo ≤ k ∧ (k : Int) ≤ hi) → tmK A B C D E k = 0 := fun k hk => if_neg fun z => hk ((h1 k).mp z)
  by_cases h : lo ≤ hi
  · have e : A + 1 = lo.toNat + ((hi + 1 - lo).toNat + (A - hi.toNat)) := by omega
    rw [e, sumK_add, sumK_add, sumK_zero fun i hi' => out i (by omega), sumK_zero (n := A - hi.toNat) fun i hi' => out _ (by omega)]
    omega
  · rw [show (hi + 1 - lo).toNat = 0 by omega, sumK_zero fun i _ => out i (by omega)]
    rfl
/-- one term more, as fractions in lowest terms -/
theorem frac_step (q : Rat) (low sg : Int) (h : low ≠ 0) : Rat.divInt (q.num * low + (q.den : Int) * sg) ((q.den : Int) * low) = q + Rat.divInt sg low := by
  have d0 : (q.den : Int) ≠ 0 := by have := q.den_pos; omega
  have e := Rat.divInt_add_divInt q.num sg d0 h
  rw [Rat.num_divInt_den] at e
  rw [e, Int.mul_comm sg]
theorem frac_com {A B C : Nat} {D E : Int} {k : Nat} (h : okK A B C D E k = true) : Rat.divInt (sgK k) ((botK A B C D E k : Nat) : Int) = Rat.divInt (tmK A B C D E k) ((comK A B C D E : Nat) : Int) := by
  have b0 := botK_pos A B C D E k
  have c0 := comK_pos A B C D E
  rw [Rat.divInt_eq_divInt_iff (by omega) (by omega)]
  unfold tmK
  rw [if_pos h, Int.mul_assoc, ← Int.natCast_mul, Nat.div_mul_cancel (botK_dvd h)]
theorem divInt_sum (x y : Int) {c : Int} (h : c ≠ 0) : Rat.divInt x c + Rat.divInt y c = Rat.divInt (x + y) c := by
  rw [Rat.divInt_add_divInt _ _ h h, ← Int.add_mul, Rat.divInt_mul_right h]
/-- the law's sum, step by step -/
theorem total_step {A B C : Nat} {D E : Int} {k : Nat} (h : okK A B C D E k = true) {q : Rat} (hq : q = Rat.divInt (sumK (tmK A B C D E) k) ((comK A B C D E : Nat) : Int)) :
    Rat.divInt (q.num * ((botK A B C D E k : Nat) : Int) + (q.den : Int) * sgK k) ((q.den : Int) * ((botK A B C D E k : Nat) : Int)) = Rat.divInt (sumK (tmK A B C D E) (k + 1)) ((comK A B C D E : Nat) : Int) := by
  have b0 := botK_pos A B C D E k
  have c0 := comK_pos A B C D E
  rw [frac_step q _ _ (by omega), frac_com h]
  conv => lhs; rw [hq]
  rw [divInt_sum _ _ (by omega), sumK_succ]
theorem total_skip {A B C : Nat} {D E : Int} {k : Nat} (h : ¬ okK A B C D E k = true) : sumK (tmK A B C D E) (k + 1) = sumK (tmK A B C D E) k := by
  rw [sumK_succ]
  have : tmK A B C D E k = 0 := if_neg h
  omega
/-- the root by the primes and the root by trying, a square of a common one beside -/
theorem root_two {above below : List Nat} (ha : ∀ n ∈ above, n < 123) (hb : ∀ n ∈ below, n < 123) {up under free square com : Nat} (hu : 0 < under) (hc : 0 < com) (hq : up * prodF below = under * prodF above * (com * com)) (hN : up * under = square * square * free) (hf : SqF free) :
    rootE above below = free ∧ topE above below * under * com = square * botE above below := by
  have pb : 0 < prodF below := by
    rw [prodF_leg hb]
    exact powP_pos pr30_p
  have e := rootE_ok ha hb
  have key : (topE above below * under * com) * (topE above below * under * com) * rootE above below = (square * botE above below) * (square * botE above below) * free := by
    have z : (topE above below * under * com) * (topE above below * under * com) * rootE above below * prodF below = (square * botE above below) * (square * botE above below) * free * prodF below := by
      calc (topE above below * under * com) * (topE above below * under * com) * rootE above below * prodF below
          = under * under * (com * com) * (topE above below * topE above below * rootE above below * prodF below) := by simp only [Nat.mul_assoc, Nat.mul_left_comm, Nat.mul_comm]
        _ = under * under * (com * com) * (botE above below * botE above below * prodF above) := by rw [e]
        _ = (botE above below * botE above below * under) * (under * prodF above * (com * com)) := by simp only [Nat.mul_assoc, Nat.mul_left_comm, Nat.mul_comm]
        _ = (botE above below * botE above below * under) * (up * prodF below) := by rw [hq]
        _ = (botE above below * botE above below) * (up * under) * prodF below := by simp only [Nat.mul_assoc, Nat.mul_left_comm, Nat.mul_comm]
        _ = (botE above below * botE above below) * (square * square * free) * prodF below := by rw [hN]
        _ = _ := by simp only [Nat.mul_assoc, Nat.mul_left_comm, Nat.mul_comm]
    exact Nat.eq_of_mul_eq_mul_right pb z
  obtain ⟨h1, h2⟩ := sq_uniq (Nat.mul_pos (Nat.mul_pos (topE_pos _ _) hu) hc) (rootE_sqF _ _) hf key
  exact ⟨h2, h1⟩
/-- both answers are one: top / bot times the whole sum, square / under times the sum's fraction -/
theorem both_one {top bot under square com : Nat} {W : Int} (hb : 0 < bot) (hu : 0 < under) (hc : 0 < com) (h : top * under * com = square * bot) :
    Rat.divInt W 1 * Rat.divInt (top : Int) (bot : Int) = Rat.divInt (square : Int) (under : Int) * Rat.divInt W (com : Int) := by
  rw [Rat.divInt_mul_divInt, Rat.divInt_mul_divInt, Rat.divInt_eq_divInt_iff (by omega) (by
    intro z
    rcases Int.mul_eq_zero.mp z with z | z <;> omega)]
  have h' : (top : Int) * under * com = square * bot := by
    have := congrArg (Nat.cast : Nat → Int) h
    push_cast at this
    exact this
  grind
end TCX
/-! xs[i] op= e: the reading of a list's item. -/
namespace TCX
open PySem PySem.Spec PyProof.Rows L2
def rGetL (K : PySem.W.Frag) : V → V → Hp → VK → Prop := fun o i H Q => ∃ (p : Addr) (xs : List V) (j : Nat) (v : V), o = .ref p ∧ i = .int (j : Nat) ∧ SqL K H p xs ∧ xs[j]? = some v ∧ Q v H
theorem get_list {X : Cx} : PGet X (rGetL X.K) := by
  intro pins s σ H o i ov iv Q I ro ri h
  obtain ⟨p, xs, j, z, rfl, rfl, hq, he, q⟩ := h
  cases ro
  obtain ⟨t, rfl⟩ := ri
  obtain ⟨its, r, pl, hz⟩ := I.list hq
  obtain ⟨w, ew, rw'⟩ := r.get he
  have hl := r.length
  have hn := line63
  have jl : j < xs.length := (List.getElem?_eq_some_iff.mp he).1
  exact wpAny_getItem_list pl.isList (by omega) (by omega) (by simpa using ew) ⟨z, H, I, rw', q⟩
end TCX
namespace TCX
open PySem PySem.Spec PyProof.Rows L2 HT
theorem same_new {H : Hp} {p : Addr} {o : HO} (h : H p = none) : Same H (upd H p o) := fun b x e => by
  rw [upd_ne (ne_of_none e h)]
  exact e
section
variable {X : Cx}
/-- t + u, whatever they hold: some tuple of both -/
def rCatS : R2 := fun x y H Q => ∃ a b xs ys, x = .ref a ∧ y = .ref b ∧ H a = some (.tup xs) ∧ H b = some (.tup ys) ∧ xs.length + ys.length ≤ sizeLine ∧ ∀ p H', Same H H' → H' p = some (.tup (xs ++ ys)) → Q (.ref p) H'
theorem op_catS : OpR X (binaryOp .Add) (rCatS) := by
  intro pins s σ H x y v u Q I rx ry h
  obtain ⟨a, b, xs, ys, rfl, rfl, ha, hb, hz, q⟩ := h
  refine op_catA pins s σ H _ _ v u Q I rx ry ⟨a, b, xs, ys, rfl, rfl, SqT.of ha, SqT.of hb, hz, fun e => ?_, fun _ e => ?_, fun _ _ p hp => ?_⟩
  · subst e
    exact q b H (fun _ _ z => z) hb
  · subst e
    exact q a H (fun _ _ z => z) (by rw [List.append_nil]; exact ha)
  · exact q p _ (same_new hp) upd_same
/-- t[lo:hi], whatever it is: some tuple of the part -/
def rSlS : V → Option Int → Option Int → Hp → VK → Prop := fun x lo hi H Q => ∃ a xs, x = .ref a ∧ H a = some (.tup xs) ∧ ∀ p H', Same H H' → H' p = some (.tup (cutV xs lo hi)) → Q (.ref p) H'
theorem sl_tupS : SlR X (rSlS) := by
  intro pins s σ H x v vl vu lo hi sl Q I rx hs pl pu h
  obtain ⟨a, xs, rfl, hx, q⟩ := h
  refine sl_tupA pins s σ H _ v vl vu lo hi sl Q I rx hs pl pu ⟨a, xs, rfl, SqT.of hx, fun e => ?_, fun _ p hp => ?_⟩
  · refine q a H (fun _ _ z => z) ?_
    unfold cutV
    rw [e.1, e.2]
    simpa using hx
  · exact q p _ (same_new hp) upd_same
end
theorem cut_take {xs : List V} {k : Nat} : cutV xs none (some (k : Int)) = xs.take k := by
  unfold cutV
  rw [sIx_nat, sIx_none]
  show xs.take (min k xs.length) = xs.take k
  by_cases h : k ≤ xs.length
  · rw [Nat.min_eq_left h]
  · rw [Nat.min_eq_right (by omega), List.take_length, List.take_of_length_le (by omega)]
theorem cut_drop {xs : List V} {k : Nat} : cutV xs (some (k : Int)) none = xs.drop k := by
  unfold cutV
  rw [sIx_nat, sIx_none]
  by_cases h : k ≤ xs.length
  · rw [Nat.min_eq_left h, List.take_of_length_le (by rw [List.length_drop]; omega)]
  · rw [Nat.min_eq_right (by omega), List.drop_length, List.drop_of_length_le (by omega)]
    exact List.take_nil
end TCX
/-! slices of a list with a step. -/
namespace TCX
open PySem PySem.Spec PyProof.Rows L2
theorem vals_at {xs : List V} {us : List Value} (h : Vals xs us) : ∀ i : Nat, (xs[i]? = none ∧ us[i]? = none) ∨ ∃ x u, xs[i]? = some x ∧ us[i]? = some u ∧ RelV x u := by
  induction h with
  | nil => exact fun i => .inl ⟨rfl, rfl⟩
  | cons r t ih =>
    intro i
    cases i with
    | zero => exact .inr ⟨_, _, rfl, rfl, r⟩
    | succ i => exact ih i
theorem vals_pick {xs : List V} {us : List Value} (h : Vals xs us) : ∀ is : List Nat, Vals (is.filterMap (xs[·]?)) (is.filterMap (us[·]?))
  | [] => .nil
  | i :: is => by
    rcases vals_at h i with ⟨e1, e2⟩ | ⟨x, u, e1, e2, r⟩
    · rw [List.filterMap_cons, List.filterMap_cons, e1, e2]
      exact vals_pick h is
    · rw [List.filterMap_cons, List.filterMap_cons, e1, e2]
      exact .cons r (vals_pick h is)
/-- the items of xs[lo:hi:st] -/
def stepV (xs : List V) (lo hi st : Option Int) : List V := (sliceRange (sliceBounds lo hi st xs.length).1 (sliceBounds lo hi st xs.length).2.1 (sliceBounds lo hi st xs.length).2.2).filterMap (xs[·]?)
section
variable {X : Cx} {e : Expr} {te : TE} {lo hi : Option Expr} {se : Expr} {tl th ts : TO} {pos p2 : Pos}
def tSl3 (K : PySem.W.Frag) (te : TE) (tl th ts : TO) : TE := fun σ H Q => te σ H fun x H1 => tl σ H1 fun l H2 => th σ H2 fun u H3 => ts σ H3 fun c H4 => ∃ a xs, x = .ref a ∧ SqL K H4 a xs ∧ c ≠ some 0 ∧ (stepV xs l u c).length ≤ sizeLine ∧ ∀ p, H4 p = none → Q (.ref p) (upd H4 p (.lst (stepV xs l u c)))
theorem pe_slice3 (he : PE X e te) (hl : PO X lo tl) (hu : PO X hi th) (hs : PO X (some se) ts) : PE X (.Subscript e (.Slice lo hi (some se) p2) pos) (tSl3 X.K te tl th ts) := by
  refine ⟨fun pins s σ H Q I h => ?_⟩
  refine Subscript_ (thn (he.run pins s σ H _ I h) fun v s1 ⟨x, H1, I1, r1, q1⟩ => ?_)
  refine wpAny_Slice (thn (hl.run pins s1 σ H1 _ I1 q1) fun vl s2 ⟨l, H2, I2, pl, q2⟩ => thn (hu.run pins s2 σ H2 _ I2 q2) fun vu s3 ⟨u, H3, I3, pu, q3⟩ => thn (hs.run pins s3 σ H3 _ I3 q3) fun vs s4 ⟨c, H4, I4, ps, q4⟩ => ?_)
  obtain ⟨a, xs, rfl, hx, hc, hz, q⟩ := q4
  have I5 : Inv X pins σ H4 { s4 with heap := s4.heap.push { cls := .type "slice", data := .fields #[vl, vu, vs] } } := I4.kept (t' := s4.toks) fun b ob q => Heap.get?_push_of_some _ q
  cases r1
  obtain ⟨its, r, ht, hz'⟩ := I5.list hx
  have hlen := r.length
  refine tail_any (ops := [.ref a, .ref s4.heap.objs.size]) (T := "list") ht.isList.typeIs slot_list_getitem.lookup ?_ (by with_unfolding_all rfl)
  refine wpAny_getItem_list_slice ht.isList (Heap.IsSliceOf.new ..) pl pu ps hc ?_ (by rw [List.size_toArray] <;> omega)
  have e : slicePick its.toArray l u c = ((sliceRange (sliceBounds l u c its.length).1 (sliceBounds l u c its.length).2.1 (sliceBounds l u c its.length).2.2).filterMap (its[·]?)).toArray := by
    unfold slicePick
    rw [List.size_toArray]
    simp only [List.getElem?_toArray]
  rw [e, ← hlen]
  refine ⟨.ref _, _, I5.laid (t' := s4.toks) (o := .lst (stepV xs l u c)) (fun b ob q => Heap.get?_push_of_some _ q) (Nat.le_refl _) ?_, rfl, q _ (I5.hok.fresh (Nat.le_refl _))⟩
  exact ⟨hz, _, 0, vals_pick r _, Heap.get?_push_size _ rfl⟩
end
end TCX
namespace TCX
open PySem PySem.Spec PyProof.Rows L2
theorem range_down (n : Nat) (hi : Nat) (h : hi ≤ n) : sliceRange ((n : Int) - 1) ((hi : Int) - 1) (-1) = (List.range (n - hi)).map fun k => n - 1 - k := by
  unfold sliceRange
  by_cases hn : hi < n
  · have e : ((n : Int) - 1 - ((hi : Int) - 1) - -1 - 1) / (- -1) = ((n - hi : Nat) : Int) := by
      rw [show (- -1 : Int) = 1 from rfl, Int.ediv_one]
      omega
    simp only [show ¬ ((-1 : Int) > 0) by decide, if_false, show ((n : Int) - 1 > (hi : Int) - 1) by omega, if_true, e, Int.toNat_natCast]
    refine List.map_congr_left fun k hk => ?_
    have := List.mem_range.mp hk
    omega
  · have e : n - hi = 0 := by omega
    simp only [show ¬ ((-1 : Int) > 0) by decide, if_false, show ¬ ((n : Int) - 1 > (hi : Int) - 1) by omega, e]
    rfl
theorem pick_down {α : Type} (xs : List α) : ∀ k : Nat, k ≤ xs.length → ((List.range k).map fun i => xs.length - 1 - i).filterMap (xs[·]?) = (xs.drop (xs.length - k)).reverse
  | 0, _ => by simp
  | k + 1, h => by
    rw [List.range_succ, List.map_append, List.filterMap_append, pick_down xs k (by omega)]
    have h1 : xs.length - 1 - k < xs.length := by omega
    have e : xs.length - (k + 1) = xs.length - 1 - k := by omega
    rw [e, List.drop_eq_getElem_cons h1, List.reverse_cons]
    have e2 : xs.length - 1 - k + 1 = xs.length - k := by omega
    rw [e2]
    congr 1
    simp [List.getElem?_eq_getElem h1]
/-- xs[::-1] -/
theorem step_rev (xs : List V) : stepV xs none none (some (-1)) = xs.reverse := by
  unfold stepV
  have e : sliceBounds none none (some (-1)) xs.length = ((xs.length : Int) - 1, ((0 : Nat) : Int) - 1, -1) := by
    unfold sliceBounds
    simp
  rw [e, range_down xs.length 0 (Nat.zero_le _), Nat.sub_zero, pick_down xs xs.length (Nat.le_refl _), Nat.sub_self]
  rfl
/-- xs[:0:-1] -/
theorem step_tail (xs : List V) : stepV xs none (some 0) (some (-1)) = (xs.drop 1).reverse := by
  unfold stepV
  cases xs with
  | nil => rfl
  | cons x xs =>
    have e : sliceBounds none (some 0) (some (-1)) (x :: xs).length = (((x :: xs).length : Int) - 1, ((1 : Nat) : Int) - 1, -1) := by
      unfold sliceBounds
      simp
      omega
    rw [e, range_down (x :: xs).length 1 (by simp), pick_down (x :: xs) _ (by omega)]
    have e2 : (x :: xs).length - ((x :: xs).length - 1) = 1 := by simp
    rw [e2]
end TCX
/-! xs[s::s] of a list told by a function. -/
namespace TCX
open PySem PySem.Spec PyProof.Rows L2
theorem fm_all {α β : Type} {g : α → Option β} {f : α → β} : ∀ {l : List α}, (∀ x ∈ l, g x = some (f x)) → l.filterMap g = l.map f
  | [], _ => rfl
  | x :: l, h => by
    rw [List.filterMap_cons, h x (by simp), List.map_cons, fm_all fun y hy => h y (List.mem_cons_of_mem _ hy)]
theorem step_up (f : Nat → Int) (h s : Nat) (s0 : 0 < s) (hs : s ≤ h) : stepV ((List.range (h + 1)).map fun m => V.int (f m)) (some (s : Int)) none (some (s : Int)) = ((List.range (h / s)).map fun j => f ((j + 1) * s)).map V.int := by
  unfold stepV
  rw [List.length_map, List.length_range]
  have e : sliceBounds (some (s : Int)) none (some (s : Int)) (h + 1) = ((s : Int), ((h + 1 : Nat) : Int), (s : Int)) := by
    unfold sliceBounds
    have h1 : (0 : Int) < (s : Int) := by omega
    have h2 : ¬ ((s : Int) < 0) := by omega
    have h3 : ¬ (((h + 1 : Nat) : Int) < (s : Int)) := by omega
    simp [h1, h2, h3]
    omega
  rw [e]
  have er : sliceRange (s : Int) ((h + 1 : Nat) : Int) (s : Int) = (List.range (h / s)).map fun k => (k + 1) * s := by
    unfold sliceRange
    have h1 : (s : Int) > 0 := by omega
    have h2 : (s : Int) < ((h + 1 : Nat) : Int) := by omega
    have e1 : (((h + 1 : Nat) : Int) - (s : Int) + (s : Int) - 1) / (s : Int) = ((h / s : Nat) : Int) := by
      rw [show ((h + 1 : Nat) : Int) - (s : Int) + (s : Int) - 1 = (h : Int) by omega]
      exact (Int.natCast_ediv h s).symm
    simp only [h1, if_true, h2, e1, Int.toNat_natCast]
    refine List.map_congr_left fun k _ => ?_
    have : (s : Int) + (s : Int) * (k : Int) = (((k + 1) * s : Nat) : Int) := by
      rw [Nat.add_mul, Nat.one_mul, Nat.mul_comm k s]
      push_cast
      omega
    rw [this, Int.toNat_natCast]
  rw [er, List.map_map]
  rw [List.filterMap_map]
  refine fm_all fun k hk => ?_
  have hk' := List.mem_range.mp hk
  have hb : (k + 1) * s ≤ h := by
    have := Nat.mul_le_mul_right s (show k + 1 ≤ h / s by omega)
    exact Nat.le_trans this (Nat.div_mul_le_self h s)
  show ((List.range (h + 1)).map fun m => V.int (f m))[(k + 1) * s]? = _
  rw [List.getElem?_map, List.getElem?_range (by omega)]
  rfl
end TCX
namespace TC
open PySem PySem.Spec PyProof.Rows L2 TCX
/-! ### a list told by a function -/
def natV (l : List Nat) : List V := l.map fun n : Nat => V.int (n : Int)
def lisF (h : Nat) (f : Nat → Int) : List V := (List.range (h + 1)).map fun m => V.int (f m)
theorem lisF_len (h : Nat) (f : Nat → Int) : (lisF h f).length = h + 1 := by rw [lisF, List.length_map, List.length_range]
theorem lisF_get {h : Nat} {f : Nat → Int} {j : Nat} (hj : j ≤ h) : (lisF h f)[j]? = some (.int (f j)) := by
  rw [lisF, List.getElem?_map, List.getElem?_range (by omega)]
  rfl
theorem lisF_set {h : Nat} {f : Nat → Int} {j : Nat} {z : Int} : (lisF h f).set j (.int z) = lisF h fun m => if m = j then z else f m := by
  refine List.ext_getElem? fun i => ?_
  rw [List.getElem?_set]
  by_cases e : j = i
  · subst e
    rw [if_pos rfl, lisF_len]
    by_cases hj : j < h + 1
    · rw [if_pos hj, lisF_get (by omega), if_pos rfl]
    · rw [if_neg hj, List.getElem?_eq_none (by rw [lisF_len]; omega)]
  · rw [if_neg e]
    by_cases hi : i ≤ h
    · rw [lisF_get hi, lisF_get hi, if_neg fun z => e z.symm]
    · rw [List.getElem?_eq_none (by rw [lisF_len]; omega), List.getElem?_eq_none (by rw [lisF_len]; omega)]
theorem lisF_rep (h : Nat) : (List.replicate (h + 1) ([V.int 0] : List V)).flatten = lisF h fun _ => 0 := by
  unfold lisF
  rw [List.map_const', List.length_range]
  induction h + 1 with
  | zero => rfl
  | succ n ih =>
    rw [List.replicate_succ, List.flatten_cons, ih, List.replicate_succ]
    rfl
theorem lisF_congr {h : Nat} {f g : Nat → Int} (e : ∀ m, m ≤ h → f m = g m) : lisF h f = lisF h g := by
  unfold lisF
  refine List.map_congr_left fun m hm => ?_
  rw [e m (by have := List.mem_range.mp hm; omega)]
theorem eqL_snoc (l : List Nat) (n m : Nat) : eqL (l ++ [n]) m = eqL l m + (if n = m then 1 else 0) := by
  induction l with
  | nil =>
    show (if n = m then (1 : Int) else 0) + 0 = 0 + _
    omega
  | cons a l ih =>
    show (if a = m then (1 : Int) else 0) + eqL (l ++ [n]) m = (if a = m then (1 : Int) else 0) + eqL l m + _
    rw [ih]
    omega
theorem ixN_nat {n j : Nat} (h : j < n) : ixN n (j : Int) = some j := by
  unfold ixN
  simp
  omega
theorem sum_sub (f g : Nat → Int) : ∀ l : List Nat, (l.map fun j => f j - g j).sum = (l.map f).sum - (l.map g).sum
  | [] => rfl
  | x :: l => by
    rw [List.map_cons, List.sum_cons, List.map_cons, List.sum_cons, List.map_cons, List.sum_cons, sum_sub f g l]
    omega
theorem at_sum {above below : List Nat} {h s : Nat} (s0 : 0 < s) (ha : ∀ n ∈ above, n ≤ h) (hb : ∀ n ∈ below, n ≤ h) : ((List.range (h / s)).map fun j => geL above ((j + 1) * s) - geL below ((j + 1) * s)).sum = atS above below s := by
  rw [sum_sub (fun j => geL above ((j + 1) * s)) (fun j => geL below ((j + 1) * s)), mult_sum s0 ha, mult_sum s0 hb]
  rfl
theorem legN_zero {n p : Nat} (h : n < p) : legN n p = 0 := by
  have z : ∀ q, p ≤ q → n / q = 0 := fun q hq => Nat.div_eq_of_lt (by omega)
  have p1 : 1 ≤ p := by omega
  have m1 : p ≤ p * p := Nat.le_mul_of_pos_right p p1
  have m2 : p ≤ p * p * p := Nat.le_trans m1 (Nat.le_mul_of_pos_right _ p1)
  have m3 : p ≤ p * p * p * p := Nat.le_trans m2 (Nat.le_mul_of_pos_right _ p1)
  have m4 : p ≤ p * p * p * p * p := Nat.le_trans m3 (Nat.le_mul_of_pos_right _ p1)
  have m5 : p ≤ p * p * p * p * p * p := Nat.le_trans m4 (Nat.le_mul_of_pos_right _ p1)
  unfold legN
  rw [z _ (Nat.le_refl p), z _ m1, z _ m2, z _ m3, z _ m4, z _ m5]
theorem sumL_zero {l : List Nat} {p : Nat} (h : ∀ n ∈ l, n < p) : sumL l p = 0 := by
  induction l with
  | nil => rfl
  | cons n l ih =>
    show legN n p + sumL l p = 0
    rw [legN_zero (h n (by simp)), ih fun m hm => h m (List.mem_cons_of_mem _ hm)]
theorem expE_zero {above below : List Nat} {p : Nat} (ha : ∀ n ∈ above, n < p) (hb : ∀ n ∈ below, n < p) : expE above below p = 0 := by
  unfold expE
  rw [sumL_zero ha, sumL_zero hb]
  rfl
theorem pr_at : ∀ i, i < 30 → primes[i]? = (pr30[i]?).map (Nat.cast : Nat → Int) := by decide +kernel
theorem pr_far : ∀ x ∈ primes.drop 30, 122 < x := by decide +kernel
theorem pr_up : ∀ i, i < 30 → ∀ q ∈ pr30.drop i, pr30.getD i 0 ≤ q := by decide +kernel
theorem pr_len : pr30.length = 30 ∧ primes.length = 168 := by decide +kernel
/-- pairs of a prime and its power -/
def PwR (H : Hp) (e : Nat → Int) : List Addr → List Nat → Prop
  | [], [] => True
  | u :: us, p :: ps => H u = some (.tup [.int (p : Int), .int (e p)]) ∧ PwR H e us ps
  | _, _ => False
theorem PwR.same {H H' : Hp} {e : Nat → Int} (s : Same H H') : ∀ {us : List Addr} {ps : List Nat}, PwR H e us ps → PwR H' e us ps
  | [], [], _ => trivial
  | _ :: _, _ :: _, h => ⟨s _ _ h.1, PwR.same s h.2⟩
  | [], _ :: _, h => h.elim
  | _ :: _, [], h => h.elim
theorem PwR.len {H : Hp} {e : Nat → Int} : ∀ {us : List Addr} {ps : List Nat}, PwR H e us ps → us.length = ps.length
  | [], [], _ => rfl
  | _ :: _, _ :: _, h => congrArg Nat.succ (PwR.len h.2)
  | [], _ :: _, h => h.elim
  | _ :: _, [], h => h.elim
theorem PwR.upd {H : Hp} {e : Nat → Int} {l : Addr} {o : HO} (hl : ∀ x, H l ≠ some (.tup x)) : ∀ {us : List Addr} {ps : List Nat}, PwR H e us ps → PwR (L2.upd H l o) e us ps
  | [], [], _ => trivial
  | u :: us, p :: ps, h => ⟨by
    rw [upd_ne fun z => hl _ (by rw [← z]; exact h.1)]
    exact h.1, PwR.upd hl h.2⟩
  | [], _ :: _, h => h.elim
  | _ :: _, [], h => h.elim
theorem PwR.snoc {H : Hp} {e : Nat → Int} {u : Addr} {p : Nat} (hu : H u = some (.tup [.int (p : Int), .int (e p)])) : ∀ {us : List Addr} {ps : List Nat}, PwR H e us ps → PwR H e (us ++ [u]) (ps ++ [p])
  | [], [], _ => ⟨hu, trivial⟩
  | _ :: _, _ :: _, h => ⟨h.1, PwR.snoc hu h.2⟩
  | [], _ :: _, h => h.elim
  | _ :: _, [], h => h.elim
theorem PwR.get {H : Hp} {e : Nat → Int} : ∀ {us : List Addr} {ps : List Nat} {i : Nat} {v : V}, PwR H e us ps → (us.map V.ref)[i]? = some v → ∃ u p, v = .ref u ∧ ps[i]? = some p ∧ H u = some (.tup [.int (p : Int), .int (e p)])
  | [], [], i, v, _, z => by simp at z
  | u :: us, p :: ps, 0, v, h, z => ⟨u, p, (Option.some.inj z).symm, rfl, h.1⟩
  | u :: us, p :: ps, i + 1, v, h, z => by
    have z' : (us.map V.ref)[i]? = some v := z
    obtain ⟨u', p', a, b, c⟩ := PwR.get h.2 z'
    exact ⟨u', p', a, b, c⟩
  | [], _ :: _, _, _, h, _ => h.elim
  | _ :: _, [], _, _, h, _ => h.elim
theorem nat_at {l : List Nat} {i : Nat} {x : V} (h : (natV l)[i]? = some x) : ∃ n : Nat, l[i]? = some n ∧ x = .int (n : Int) := by
  unfold natV at h
  rw [List.getElem?_map] at h
  cases e : l[i]? with
  | none =>
    rw [e] at h
    cases h
  | some n =>
    rw [e] at h
    exact ⟨n, rfl, (Option.some.inj h).symm⟩
theorem natV_len (l : List Nat) : (natV l).length = l.length := List.length_map ..
theorem take_at {l : List Nat} {i n : Nat} (h : l[i]? = some n) : l.take (i + 1) = l.take i ++ [n] := by
  rw [List.take_add_one, h]
  rfl
def muP (h : Nat) : L2.St → Nat
  | [_, _, _, _, _, _, _, _, some (.int s)] => (h + 1 - s).toNat
  | _ => 0
section
variable {P : Program} {w : World} {K : PySem.W.Frag} {mg : Str → Option Value} {base : Heap} {f : Addr} {fd : FuncData}
/-! ### primes_of_factorials -/
def spPrimesF (K : PySem.W.Frag) : Sp := fun vs H Q _ => ∃ (a b : Addr) (above below : List Nat), vs = [.ref a, .ref b] ∧ H a = some (.lst (natV above)) ∧ H b = some (.lst (natV below)) ∧ 0 < above.length ∧ above.length ≤ 50 ∧ below.length ≤ 50 ∧ (∀ n ∈ above, n < 123) ∧ (∀ n ∈ below, n < 123) ∧
  ∀ (l : Addr) (us : List Addr) (i : Nat) H', Same H H' → H' l = some (.lst (us.map V.ref)) → PwR H' (expE above below) us (pr30.take i) → i ≤ 30 → (∀ p ∈ pr30.drop i, expE above below p = 0) → Q (.ref l) H'
abbrev nPrimesF : List Str := ["above", "below", "high", "counts", "number", "found", "prime", "power", "step"]
theorem scPrimesF : FnScope nPrimesF ["above", "below"] (defScope sPrimesF) := ⟨rfl, rfl, rfl, by decide +kernel, rfl, by decide +kernel, by decide +kernel⟩
theorem ok_primesF {aP : Addr} (F : FnP K "primes_of_factorials" sPrimesF f fd) (gP : mg "PRIMES" = some (.ref aP)) (kP : ∀ H : Hp, SqT K H aP (primes.map V.int)) (gmax : mg "max" = none) (grange : mg "range" = none) (grev : mg "reversed" = none) (gsum : mg "sum" = none) :
    FnOk P w K mg base CX0 1 f fd ["above", "below"] (spPrimesF K) := by
  refine F.ok scPrimesF (fun vs H Q E h => ?_) (fun cdv A outer s H vs Q E hr h => ?_)
  · obtain ⟨_, _, _, _, rfl, _⟩ := h
    rfl
  obtain ⟨a, b, above, below, rfl, hA, hB, la0, la, lb, ha, hb, q⟩ := h
  refine ⟨_, PSs.nox (C8.pss_cut (ps_set (i := 2) scPrimesF.nd rfl (.inl rfl) (pe_callB (cr_max rfl) (by rfl) gmax (by decide +kernel) (pa_cons (pe_lst (StX.pa_star (pv 0) (StX.pa_star (pv 1) pa_nil))) pa_nil)))
    (C8.pss_cut (ps_set (i := 3) scPrimesF.nd rfl (.inl rfl) (pe_op op_rep (pe_lst (pa_cons pe_int pa_nil)) (pe_op op_add (pv 2) pe_int)))
    (C8.pss_cut (ps_for PassesOwn.never rfl (pi_list (pv 0)) (pg_name (i := 4) scPrimesF.nd rfl (.inl rfl)) (pss_one (ps_augS (pv 3) (pv 4) get_list pe_int ip_add set_list)))
    (C8.pss_cut (ps_for PassesOwn.never rfl (pi_list (pv 1)) (pg_name (i := 4) scPrimesF.nd rfl (.inl rfl)) (pss_one (ps_augS (pv 3) (pv 4) get_list pe_int ip_sub set_list)))
    (C8.pss_cut (ps_for PassesOwn.never rfl (pi_revR (by rfl) grev (prg_1 (by rfl) grange (pv 2))) (pg_name (i := 4) scPrimesF.nd rfl (.inl rfl)) (pss_one (ps_augS (pv 3) (pv 4) get_list (pe_ix ix_list (pv 3) (pe_op op_add (pv 4) pe_int) (fun _ _ => rfl)) ip_add set_list)))
    (pss_cons (ps_set (i := 5) scPrimesF.nd rfl (.inl rfl) (pe_lst pa_nil))
    (C8.pss_cut (ps_for PassesOwn.never rfl (pi_tup (pe_glob (v := .ref aP) (by rfl) gP rfl)) (pg_name (i := 6) scPrimesF.nd rfl (.inl rfl))
      (pss_cons (ps_if (pt_cmpR op_gt (pv 6) (pv 2) (nomark _)) (pss_one ps_break) pss_nil)
      (pss_cons (ps_par (i := 7) (j := 8) (by rfl) scPrimesF.nd rfl rfl (by decide) rfl rfl (pa_cons pe_int (pa_cons (pv 6) pa_nil)) (by rfl))
      (C8.pss_cut (ps_while PassesOwn.never (pt_cmpR op_le (pv 8) (pv 2) (nomark _))
        (pss_cons (ps_aug (i := 7) scPrimesF.nd rfl (.inl rfl) (pe_callB (cr_sum rfl) (by rfl) gsum (by decide +kernel) (pa_cons (pe_slice3 (pv 3) (po_some (pv 8)) po_none (po_some (pv 8))) pa_nil)) ip_add)
        (pss_one (ps_aug (i := 8) scPrimesF.nd rfl (.inl rfl) (pv 6) iop_mul))))
      (pss_one (ps_expr (pe_bm PySem.F.plainAttrs_list PySem.F.slot_list_append PySem.F.type_list_append mt_append (pv 5) (pa_cons (pe_tup (pa_cons (pv 6) (pa_cons (pv 7) pa_nil))) pa_nil))))))))
    (pss_one (ps_ret (pv 5)))))))))), ?_⟩
  -- high
  refine ⟨fun σ H' => ∃ h : Nat, σ = [some (.ref a), some (.ref b), some (.int (h : Int)), none, none, none, none, none, none] ∧ Same H H' ∧ h < 123 ∧ (∀ n ∈ above, n ≤ h) ∧ (∀ n ∈ below, n ≤ h), ?_, fun σ H1 hM => ?_⟩
  · refine ⟨_, rfl, a, _, rfl, .inr (SqL.of hA), _, rfl, b, _, rfl, .inr (SqL.of hB), ?_, fun l hl => ?_⟩
    · rw [List.append_nil, List.length_append, natV_len, natV_len, sizeLine_eq]
      omega
    · have eL : natV above ++ (natV below ++ []) = ((above ++ below).map (Nat.cast : Nat → Int)).map V.int := by
        rw [List.append_nil, List.map_append, List.map_append, List.map_map, List.map_map]
        rfl
      rw [eL]
      refine ⟨l, (above ++ below).map (Nat.cast : Nat → Int), rfl, SqL.of upd_same, ?_, fun m hm hmax => ?_⟩
      · rw [List.length_map, List.length_append]
        omega
      · obtain ⟨h, hh, rfl⟩ := List.mem_map.mp hm
        have hle : ∀ n, n ∈ above ++ below → n ≤ h := fun n hn => by
          have := hmax (n : Int) (List.mem_map.mpr ⟨n, hn, rfl⟩)
          omega
        refine ⟨h, rfl, same_upd hl, ?_, fun n hn => hle n (List.mem_append_left _ hn), fun n hn => hle n (List.mem_append_right _ hn)⟩
        rcases List.mem_append.mp hh with z | z
        · exact ha h z
        · exact hb h z
  obtain ⟨h, rfl, s1, h1, hav, hbv⟩ := hM
  have hA1 := s1 _ _ hA
  have hB1 := s1 _ _ hB
  -- counts
  refine ⟨fun σ H' => ∃ c : Addr, σ = [some (.ref a), some (.ref b), some (.int (h : Int)), some (.ref c), none, none, none, none, none] ∧ H1 c = none ∧ Same H1 H' ∧ H' c = some (.lst (lisF h fun _ => 0)), ?_, fun σ H2 hM => ?_⟩
  · refine ⟨by show 1 ≤ sizeLine; decide, fun l hl => ?_⟩
    have s2 := same_upd (o := .lst [V.int 0]) hl
    refine ⟨_, rfl, h, 1, rfl, rfl, l, _, _, rfl, rfl, upd_same, by omega, by omega, ?_, fun c hc => ?_⟩
    · show 1 * ((h : Int) + 1).toNat ≤ _
      rw [sizeLine_eq]
      omega
    · have e : ((h : Int) + 1).toNat = h + 1 := by omega
      rw [e, lisF_rep]
      exact ⟨c, rfl, s2.free hc, s2.trans (same_upd hc), upd_same⟩
  obtain ⟨c, rfl, hc1, s2, hc2⟩ := hM
  have keep : ∀ {G : Hp} {o : HO}, Same H1 G → Same H1 (upd G c o) := fun {G o} sg x y e => by
    rw [upd_ne (ne_of_none e hc1)]
    exact sg _ _ e
  have nA : ∀ {G : Hp}, Same H1 G → SqL K G a (natV above) := fun sg => SqL.of (sg _ _ hA1)
  have nB : ∀ {G : Hp}, Same H1 G → SqL K G b (natV below) := fun sg => SqL.of (sg _ _ hB1)
  -- one more for each above
  refine ⟨fun σ H' => ∃ v4 : Option V, σ = [some (.ref a), some (.ref b), some (.int (h : Int)), some (.ref c), v4, none, none, none, none] ∧ Same H1 H' ∧ H' c = some (.lst (lisF h (eqL above))), ?_, fun σ H3 hM => ?_⟩
  · refine ⟨_, rfl, a, rfl, ⟨_, nA s2⟩, for_list (xs := natV above) (fun i σ H' => ∃ v4 : Option V, σ = [some (.ref a), some (.ref b), some (.int (h : Int)), some (.ref c), v4, none, none, none, none] ∧ Same H1 H' ∧ H' c = some (.lst (lisF h (eqL (above.take i))))) ⟨none, rfl, s2, hc2⟩ (fun i σ H' _ hP => ?_) (fun i x σ H' hx hP => ?_) (fun σ H' hP => ?_)⟩
    · obtain ⟨_, _, sg, _⟩ := hP
      exact nA sg
    · obtain ⟨v4, rfl, sg, hcc⟩ := hP
      obtain ⟨n, hn, rfl⟩ := nat_at hx
      have nh : n ≤ h := hav n (List.mem_of_getElem? hn)
      refine ⟨_, rfl, _, rfl, c, _, n, _, rfl, rfl, SqL.of hcc, lisF_get nh, _, 1, rfl, rfl, c, _, n, n, rfl, rfl, hcc, ?_, _, rfl, keep sg, ?_⟩
      · rw [lisF_len]
        exact ixN_nat (by omega)
      · rw [upd_same, lisF_set, take_at hn]
        refine congrArg (fun z => some (HO.lst z)) (lisF_congr fun m _ => ?_)
        rw [eqL_snoc]
        by_cases e : m = n
        · rw [if_pos e, if_pos e.symm, e]
        · rw [if_neg e, if_neg fun z => e z.symm]
          omega
    · obtain ⟨v4, rfl, sg, hcc⟩ := hP
      rw [natV_len, List.take_length] at hcc
      exact ⟨v4, rfl, sg, hcc⟩
  obtain ⟨v4, rfl, s3, hc3⟩ := hM
  -- one less for each below
  refine ⟨fun σ H' => ∃ v4 : Option V, σ = [some (.ref a), some (.ref b), some (.int (h : Int)), some (.ref c), v4, none, none, none, none] ∧ Same H1 H' ∧ H' c = some (.lst (lisF h fun m => eqL above m - eqL below m)), ?_, fun σ H4 hM => ?_⟩
  · refine ⟨_, rfl, b, rfl, ⟨_, nB s3⟩, for_list (xs := natV below) (fun i σ H' => ∃ v4 : Option V, σ = [some (.ref a), some (.ref b), some (.int (h : Int)), some (.ref c), v4, none, none, none, none] ∧ Same H1 H' ∧ H' c = some (.lst (lisF h fun m => eqL above m - eqL (below.take i) m))) ⟨v4, rfl, s3, ?_⟩ (fun i σ H' _ hP => ?_) (fun i x σ H' hx hP => ?_) (fun σ H' hP => ?_)⟩
    · rw [hc3]
      refine congrArg (fun z => some (HO.lst z)) (lisF_congr fun m _ => ?_)
      show _ = eqL above m - 0
      omega
    · obtain ⟨_, _, sg, _⟩ := hP
      exact nB sg
    · obtain ⟨v4, rfl, sg, hcc⟩ := hP
      obtain ⟨n, hn, rfl⟩ := nat_at hx
      have nh : n ≤ h := hbv n (List.mem_of_getElem? hn)
      refine ⟨_, rfl, _, rfl, c, _, n, _, rfl, rfl, SqL.of hcc, lisF_get nh, _, 1, rfl, rfl, c, _, n, n, rfl, rfl, hcc, ?_, _, rfl, keep sg, ?_⟩
      · rw [lisF_len]
        exact ixN_nat (by omega)
      · rw [upd_same, lisF_set, take_at hn]
        refine congrArg (fun z => some (HO.lst z)) (lisF_congr fun m _ => ?_)
        rw [eqL_snoc]
        by_cases e : m = n
        · rw [if_pos e, if_pos e.symm, e]
          dsimp only
          omega
        · rw [if_neg e, if_neg fun z => e z.symm]
          omega
    · obtain ⟨v4, rfl, sg, hcc⟩ := hP
      rw [natV_len, List.take_length] at hcc
      exact ⟨v4, rfl, sg, hcc⟩
  clear v4
  obtain ⟨v4, rfl, s4, hc4⟩ := hM
  -- summed from the end
  refine ⟨fun σ H' => ∃ v4 : Option V, σ = [some (.ref a), some (.ref b), some (.int (h : Int)), some (.ref c), v4, none, none, none, none] ∧ Same H1 H' ∧ H' c = some (.lst (lisF h fun m => geL above m - geL below m)), ?_, fun σ H5 hM => ?_⟩
  · have top : ∀ l : List Nat, (∀ n ∈ l, n ≤ h) → geL l h = eqL l h := fun l hl => by
      rw [ge_step, ge_top hl (Nat.lt_succ_self h)]
      omega
    refine ⟨_, rfl, h, rfl, by omega, by omega, by omega, by omega, for_rangeC (fun i σ H' => ∃ v4 : Option V, σ = [some (.ref a), some (.ref b), some (.int (h : Int)), some (.ref c), v4, none, none, none, none] ∧ Same H1 H' ∧ H' c = some (.lst (lisF h fun m => if h - i ≤ m then geL above m - geL below m else eqL above m - eqL below m))) ⟨v4, rfl, s4, ?_⟩ (fun i σ H' hi hP => ?_) (fun σ H' hP => ?_)⟩
    · rw [hc4]
      refine congrArg (fun z => some (HO.lst z)) (lisF_congr fun m hm => ?_)
      by_cases e : h - 0 ≤ m
      · rw [if_pos e, show m = h by omega, top above hav, top below hbv]
      · rw [if_neg e]
    · obtain ⟨v4, rfl, sg, hcc⟩ := hP
      have hi' : i < h := by omega
      have ej : (0 : Int) + ((((h : Int) - 0).toNat : Nat) : Int) - 1 + (i : Nat) * (-1) = ((h - 1 - i : Nat) : Int) := by omega
      rw [ej]
      refine ⟨_, rfl, _, rfl, c, _, h - 1 - i, _, rfl, rfl, SqL.of hcc, lisF_get (by omega), _, rfl, _, rfl, _, 1, rfl, rfl, c, _, _, _, rfl, rfl, SqL.of hcc, at_of (j := h - i) (by omega) (lisF_get (by omega)), _, _, rfl, rfl, c, _, _, h - 1 - i, rfl, rfl, hcc, ?_, _, rfl, keep sg, ?_⟩
      · rw [lisF_len]
        exact ixN_nat (by omega)
      · rw [upd_same, lisF_set]
        refine congrArg (fun z => some (HO.lst z)) (lisF_congr fun m hm => ?_)
        by_cases e : m = h - 1 - i
        · rw [if_pos e, if_pos (show h - (i + 1) ≤ m by omega), if_neg (show ¬ h - i ≤ h - 1 - i by omega), if_pos (show h - i ≤ h - i by omega), ge_step above m, ge_step below m, e, show h - 1 - i + 1 = h - i by omega]
          dsimp only
          omega
        · rw [if_neg e]
          by_cases e2 : h - i ≤ m
          · rw [if_pos e2, if_pos (by omega)]
          · rw [if_neg e2, if_neg (by omega)]
    · obtain ⟨v4, rfl, sg, hcc⟩ := hP
      refine ⟨v4, rfl, sg, ?_⟩
      rw [hcc]
      refine congrArg (fun z => some (HO.lst z)) (lisF_congr fun m _ => ?_)
      rw [if_pos (by omega)]
  clear v4
  obtain ⟨v4, rfl, s5, hc5⟩ := hM
  refine ⟨by show 0 ≤ sizeLine; decide, fun l hl => ?_⟩
  have s6 := same_upd (o := .lst []) hl
  have cl : c ≠ l := ne_of_none hc5 hl
  have lH1 : H1 l = none := s5.free hl
  -- the primes
  refine ⟨fun σ H' => ∃ (v4 v6 v7 v8 : Option V) (us : List Addr) (i : Nat), σ = [some (.ref a), some (.ref b), some (.int (h : Int)), some (.ref c), v4, some (.ref l), v6, v7, v8] ∧ Same H1 H' ∧ H' l = some (.lst (us.map V.ref)) ∧ PwR H' (expE above below) us (pr30.take i) ∧ i ≤ 30 ∧ ∀ p ∈ pr30.drop i, expE above below p = 0, ?_, fun σ H7 hM => ?_⟩
  · refine ⟨aP, rfl, ⟨_, kP _⟩, for_tup (xs := primes.map V.int) (fun i σ H' => ∃ (v6 v7 v8 : Option V) (us : List Addr), σ = [some (.ref a), some (.ref b), some (.int (h : Int)), some (.ref c), v4, some (.ref l), v6, v7, v8] ∧ Same H1 H' ∧ H' l = some (.lst (us.map V.ref)) ∧ H' c = some (.lst (lisF h fun m => geL above m - geL below m)) ∧ PwR H' (expE above below) us (pr30.take i) ∧ i ≤ 30)
      ⟨none, none, none, [], rfl, s5.trans s6, upd_same, s6 _ _ hc5, trivial, by omega⟩ (fun i σ H' _ hP => kP _) (fun i x σ H' hx hP => ?_) (fun σ H' hP => ?_)⟩
    rotate_left
    · obtain ⟨_, _, _, _, _, _, _, _, _, z⟩ := hP
      rw [List.length_map, pr_len.2] at z
      omega
    obtain ⟨v6, v7, v8, us, rfl, sg, hll, hcc, hR, hi⟩ := hP
    rw [List.getElem?_map] at hx
    obtain ⟨x, hx', rfl⟩ : ∃ y, primes[i]? = some y ∧ x = V.int y := by
      cases e : primes[i]? with
      | none =>
        rw [e] at hx
        cases hx
      | some y =>
        rw [e] at hx
        exact ⟨y, rfl, (Option.some.inj hx).symm⟩
    refine ⟨_, rfl, _, rfl, x, h, rfl, rfl, _, rfl, ?_⟩
    by_cases hi3 : i = 30
    · have hf : 122 < x := pr_far x (by
        rw [List.mem_iff_getElem?]
        exact ⟨0, by rw [List.getElem?_drop, ← hx', hi3]⟩)
      refine iteD1 (show x > (h : Int) by omega) ?_
      exact ⟨v4, _, _, _, us, i, rfl, sg, hll, hR, hi, fun p hp => by
        rw [hi3, List.drop_eq_nil_of_le (by rw [pr_len.1]; omega)] at hp
        cases hp⟩
    have hi2 : i < 30 := by omega
    rw [pr_at i hi2] at hx'
    obtain ⟨p, hp, rfl⟩ : ∃ p, pr30[i]? = some p ∧ x = (p : Int) := by
      cases e : pr30[i]? with
      | none =>
        rw [e] at hx'
        cases hx'
      | some y =>
        rw [e] at hx'
        exact ⟨y, rfl, (Option.some.inj hx').symm⟩
    have pmem : p ∈ pr30 := List.mem_of_getElem? hp
    have p1 := (pr30_p p pmem).1
    have pd : pr30.getD i 0 = p := by
      rw [List.getD_eq_getElem?_getD, hp]
      rfl
    by_cases hph : (p : Int) > (h : Int)
    · refine iteD1 hph ?_
      refine ⟨v4, _, _, _, us, i, rfl, sg, hll, hR, hi, fun r hr' => ?_⟩
      have := pr_up i hi2 r hr'
      rw [pd] at this
      exact expE_zero (fun n hn => by have := hav n hn; omega) fun n hn => by have := hbv n hn; omega
    refine iteD0 hph ?_
    refine ⟨_, rfl, _, _, rfl, ?_⟩
    refine ⟨fun σ H'' => ∃ v8 : Option V, σ = [some (.ref a), some (.ref b), some (.int (h : Int)), some (.ref c), v4, some (.ref l), some (.int (p : Int)), some (.int (expE above below p)), v8] ∧ H'' l = some (.lst (us.map V.ref)) ∧ Same H' H'', ?_, fun σ H8 hM => ?_⟩
    · refine while_by (fun σ H'' => ∃ k : Nat, σ = [some (.ref a), some (.ref b), some (.int (h : Int)), some (.ref c), v4, some (.ref l), some (.int (p : Int)), some (.int (runE above below p k)), some (.int ((p ^ (k + 1) : Nat) : Int))] ∧ Same H' H'' ∧ p ^ k ≤ h) (fun σ _ => muP h σ) ⟨0, ?_, fun _ _ e => e, by show 1 ≤ h; omega⟩ (fun σ H'' hP => ?_) (fun σ H Q Q' m h => by
        obtain ⟨x, hx, y, hy, i, j, e1, e2, k, ek, hq⟩ := h
        exact ⟨x, hx, y, hy, i, j, e1, e2, k, ek, m _ _ hq⟩)
      · rw [Nat.zero_add, Nat.pow_one]
        rfl
      obtain ⟨k, rfl, sw, pk⟩ := hP
      refine ⟨_, rfl, _, rfl, _, _, rfl, rfl, _, rfl, iteB (fun y => ?_) fun y => ?_⟩
      rotate_left
      · have y' := of_decide_eq_false y
        have k6 : k ≤ 6 := Nat.le_of_not_lt fun z => by
          have z1 : 2 ^ 7 ≤ p ^ k := Nat.le_trans (Nat.pow_le_pow_left p1 7) (Nat.pow_le_pow_right (by omega) z)
          omega
        refine ⟨some (.int ((p ^ (k + 1) : Nat) : Int)), ?_, sw _ _ hll, sw⟩
        rw [runE_end p1 hav hbv (by omega) k6]
      · have y' := of_decide_eq_true y
        have ple : p ^ (k + 1) ≤ h := by omega
        have s0 : 0 < p ^ (k + 1) := Nat.pow_pos (by omega)
        obtain ⟨st, est⟩ : ∃ st, p ^ (k + 1) = st := ⟨_, rfl⟩
        rw [est] at ple s0
        have eV := step_up (fun m => geL above m - geL below m) h st s0 ple
        rw [est]
        refine ⟨_, rfl, _, rfl, _, rfl, st, rfl, _, rfl, st, rfl, c, _, rfl, SqL.of (sw _ _ hcc), ?_, ?_, fun v hv => ?_⟩
        · intro z
          have := Option.some.inj z
          omega
        · show (stepV ((List.range (h + 1)).map fun m => V.int (geL above m - geL below m)) (some (st : Int)) none (some (st : Int))).length ≤ _
          rw [eV, List.length_map, List.length_map, List.length_range, sizeLine_eq]
          have := Nat.div_le_self h st
          omega
        have eV' : stepV (lisF h fun m => geL above m - geL below m) (some (st : Int)) none (some (st : Int)) = _ := eV
        rw [eV']
        refine ⟨v, _, rfl, SqL.of upd_same, _, _, rfl, rfl, ?_⟩
        rw [at_sum s0 hav hbv]
        refine ⟨_, rfl, _, rfl, _, _, rfl, rfl, .inr ⟨by omega, by omega⟩, ⟨k + 1, ?_, sw.trans (same_upd hv), by rw [est]; exact ple⟩, ?_⟩
        · show [some (V.ref a), some (V.ref b), some (V.int (h : Int)), some (V.ref c), v4, some (V.ref l), some (V.int (p : Int)), some (V.int (runE above below p k + atS above below st)), some (V.int ((st : Int) * (p : Int)))] = _
          have e1 : runE above below p (k + 1) = runE above below p k + atS above below st := by
            rw [← est]
            rfl
          have e2 : ((p ^ (k + 1 + 1) : Nat) : Int) = (st : Int) * (p : Int) := by
            rw [Nat.pow_succ, est, Int.natCast_mul]
          rw [e1, e2]
        · show ((h : Int) + 1 - (st : Int) * (p : Int)).toNat < ((h : Int) + 1 - (st : Int)).toNat
          have : (st : Int) * 2 ≤ (st : Int) * (p : Int) := Int.mul_le_mul_of_nonneg_left (by omega) (by omega)
          omega
    obtain ⟨w8, rfl, hl8, s8⟩ := hM
    refine ⟨_, rfl, .inl ⟨rfl, _, SqL.of hl8⟩, _, rfl, _, rfl, by show 2 ≤ sizeLine; decide, fun u hu => ?_⟩
    have s9 := same_upd (o := .tup [.int (p : Int), .int (expE above below p)]) hu
    have hl9 := s9 _ _ hl8
    refine ⟨l, _, _, rfl, rfl, hl9, ?_, _, _, _, us ++ [u], rfl, ?_, ?_, ?_, ?_, by omega⟩
    · have := hR.len
      rw [List.length_take] at this
      rw [List.length_map, sizeLine_eq]
      omega
    · intro x y e
      rw [upd_ne (ne_of_none e lH1)]
      exact s9 _ _ (s8 _ _ (sg _ _ e))
    · rw [upd_same, List.map_append]
      rfl
    · rw [upd_ne cl]
      exact s9 _ _ (s8 _ _ hcc)
    · rw [take_at hp]
      exact PwR.upd (fun x e => by rw [hl9] at e; cases e) (PwR.snoc upd_same ((hR.same s8).same s9))
  obtain ⟨w4, v6, v7, v8, us, i, rfl, s7, hl7, hR, hi, hz⟩ := hM
  exact ⟨_, rfl, q l us i H7 (s1.trans s7) hl7 hR hi hz⟩
end
end TC
namespace TCX
theorem powP_append (e : Nat → Nat) : ∀ l m : List Nat, powP e (l ++ m) = powP e l * powP e m
  | [], m => (Nat.one_mul _).symm
  | p :: l, m => by
    show p ^ e p * powP e (l ++ m) = p ^ e p * powP e l * powP e m
    rw [powP_append e l m, Nat.mul_assoc]
theorem powP_snoc (e : Nat → Nat) (l : List Nat) (p : Nat) : powP e (l ++ [p]) = powP e l * p ^ e p := by
  rw [powP_append]
  show powP e l * (p ^ e p * 1) = _
  rw [Nat.mul_one]
theorem powP_none {e : Nat → Nat} {l : List Nat} (h : ∀ p ∈ l, e p = 0) : powP e l = 1 := by
  rw [powP_congr (f := fun _ => 0) h, powP_zero]
theorem pick_append (f : Nat → Bool) (l m : List Nat) : pickP f (l ++ m) = pickP f l * pickP f m := by
  rw [pick_pow, pick_pow, pick_pow, powP_append]
theorem pick_snoc (f : Nat → Bool) (l : List Nat) (p : Nat) : pickP f (l ++ [p]) = pickP f l * (if f p then p else 1) := by
  rw [pick_append]
  congr 1
  show (if f p then p * 1 else 1) = _
  rw [Nat.mul_one]
theorem pick_none {f : Nat → Bool} {l : List Nat} (h : ∀ p ∈ l, f p = false) : pickP f l = 1 := by
  rw [pick_pow]
  exact powP_none fun p hp => by rw [h p hp]; rfl
theorem legN_le (n p : Nat) : legN n p ≤ 6 * n := by
  have h : ∀ q, n / q ≤ n := fun q => Nat.div_le_self n q
  unfold legN
  have h1 := h p
  have h2 := h (p * p)
  have h3 := h (p * p * p)
  have h4 := h (p * p * p * p)
  have h5 := h (p * p * p * p * p)
  have h6 := h (p * p * p * p * p * p)
  omega
theorem sumL_le {l : List Nat} (h : ∀ n ∈ l, n < 123) (p : Nat) : sumL l p ≤ 738 * l.length := by
  induction l with
  | nil => exact Nat.le_refl _
  | cons n l ih =>
    have h1 := ih fun m hm => h m (List.mem_cons_of_mem _ hm)
    have h2 := legN_le n p
    have h3 := h n (by simp)
    show legN n p + sumL l p ≤ 738 * (l.length + 1)
    omega
theorem rat_cop {t b : Nat} (hb : 0 < b) (c : Nat.Coprime t b) : (Rat.divInt (t : Int) (b : Int)).num = (t : Int) ∧ (Rat.divInt (t : Int) (b : Int)).den = b := by
  have e : (⟨(t : Int), b, by omega, by rw [Int.natAbs_natCast]; exact c⟩ : Rat) = Rat.divInt (t : Int) (b : Int) := Rat.mk_eq_divInt ..
  rw [← e]
  exact ⟨rfl, rfl⟩
end TCX
namespace TC
open PySem PySem.Spec PyProof.Rows L2 TCX
section
variable {P : Program} {w : World} {K : PySem.W.Frag} {mg : Str → Option Value} {base : Heap} {f : Addr} {fd : FuncData} {C fI fQ : Addr}
/-! ### root_of_factorials -/
def rootL (above below : List Nat) : List Part := [((rootE above below : Nat), Rat.divInt ((topE above below : Nat) : Int) ((botE above below : Nat) : Int))]
def spRootF (C : Addr) : Sp := fun vs H Q _ => ∃ (a b : Addr) (above below : List Nat), vs = [.ref a, .ref b] ∧ H a = some (.lst (natV above)) ∧ H b = some (.lst (natV below)) ∧ 0 < above.length ∧ above.length ≤ 50 ∧ below.length ≤ 50 ∧ (∀ n ∈ above, n < 123) ∧ (∀ n ∈ below, n < 123) ∧
  ∀ x H', Same H H' → H x = none → NumAt C H' x (rootL above below) → Q (.ref x) H'
abbrev nRootF : List Str := ["above", "below", "root", "top", "bottom", "prime", "power", "half", "turn"]
theorem scRootF : FnScope nRootF ["above", "below"] (defScope sRootF) := ⟨rfl, rfl, rfl, by decide +kernel, rfl, by decide +kernel, by decide +kernel⟩
theorem ok_rootF {fP fO : Addr} {fdP fdO fdI : FuncData} (F : FnP K "root_of_factorials" sRootF f fd) (T : TxtN K mg C fI fQ) (GP : FnOk P w K mg base CX0 1 fP fdP ["above", "below"] (spPrimesF K)) (bP : L2.Binds K fdP ["above", "below"] []) (kP : PySem.W.keepIn K (.ref fP) = true) (gP : mg "primes_of_factorials" = some (.ref fP))
    (GO : FnOk P w K mg base CX0 1 fO fdO ["number"] spOdd) (bO : L2.Binds K fdO ["number"] []) (kO : PySem.W.keepIn K (.ref fO) = true) (gO : mg "is_odd" = some (.ref fO))
    (GI : FnOk P w K mg base CX0 1 fI fdI ["self", "parts"] (spInit C)) (bI : L2.Binds K fdI ["self", "parts"] []) (grange : mg "range" = none) : FnOk P w K mg base CX0 3 f fd ["above", "below"] (spRootF C) := by
  refine F.ok scRootF (fun vs H Q E h => ?_) (fun cdv A outer s H vs Q E hr h => ?_)
  · obtain ⟨_, _, _, _, rfl, _⟩ := h
    rfl
  obtain ⟨a, b, above, below, rfl, hA, hB, la0, la, lb, ha, hb, q⟩ := h
  have hr1 := hr.mono (j := 1) (by decide)
  refine ⟨_, PSs.nox (C8.pss_cut (ps_asg (pe_tup (pa_cons pe_int (pa_cons pe_int (pa_cons pe_int pa_nil)))) (pg_tup rfl (pgs_cons (pg_name (i := 2) scRootF.nd rfl (.inl rfl)) (pgs_cons (pg_name (i := 3) scRootF.nd rfl (.inl rfl)) (pgs_cons (pg_name (i := 4) scRootF.nd rfl (.inl rfl)) pgs_nil)))))
    (C8.pss_cut (ps_for PassesOwn.never rfl (pi_list (pe_call GP hr1 (by rfl) gP kP bP .nil pass0 (pa_cons (pv 0) (pa_cons (pv 1) pa_nil)))) (pg_tup rfl (pgs_cons (pg_name (i := 5) scRootF.nd rfl (.inl rfl)) (pgs_cons (pg_name (i := 6) scRootF.nd rfl (.inl rfl)) pgs_nil)))
      (pss_cons (ps_set (i := 7) scRootF.nd rfl (.inl rfl) (pe_op op_fdiv (pv 6) pe_int))
      (C8.pss_cut (ps_for PassesOwn.never rfl (pi_range1 (by rfl) grange (pa_cons (pv 7) pa_nil)) (pg_name (i := 8) scRootF.nd rfl (.inl rfl)) (pss_one (ps_aug (i := 3) scRootF.nd rfl (.inl rfl) (pv 5) iop_mul)))
      (C8.pss_cut (ps_for PassesOwn.never rfl (pi_range1 (by rfl) grange (pa_cons (pe_un un_neg (pv 7)) pa_nil)) (pg_name (i := 8) scRootF.nd rfl (.inl rfl)) (pss_one (ps_aug (i := 4) scRootF.nd rfl (.inl rfl) (pv 5) iop_mul)))
      (pss_one (ps_if (pt_val (pe_call GO hr1 (by rfl) gO kO bO .nil pass0 (pa_cons (pv 6) pa_nil))) (pss_one (ps_aug (i := 2) scRootF.nd rfl (.inl rfl) (pv 5) iop_mul)) pss_nil))))))
    (pss_one (ps_ret (pe_make T.mkr GI (hr.mono (by decide)) (by rfl) T.mgC bI .nil pass0 (pa_cons (pe_tup (pa_cons (pe_tup (pa_cons (pv 2) (pa_cons (pv 3) (pa_cons (pv 4) pa_nil)))) pa_nil)) pa_nil)))))), ?_⟩
  refine ⟨fun σ H' => σ = [some (.ref a), some (.ref b), some (.int 1), some (.int 1), some (.int 1), none, none, none, none] ∧ Same H H', ?_, fun σ H1 hM => ?_⟩
  · refine ⟨by show 3 ≤ sizeLine; decide, fun l hl => ?_⟩
    exact ⟨l, _, rfl, SqT.of upd_same, rfl, _, _, rfl, _, _, rfl, _, _, rfl, rfl, rfl, same_upd hl⟩
  obtain ⟨rfl, s1⟩ := hM
  obtain ⟨eT, heT⟩ : ∃ e : Nat → Nat, (fun p => (expE above below p / 2).toNat) = e := ⟨_, rfl⟩
  obtain ⟨eB, heB⟩ : ∃ e : Nat → Nat, (fun p => (-(expE above below p / 2)).toNat) = e := ⟨_, rfl⟩
  obtain ⟨eR, heR⟩ : ∃ e : Nat → Bool, (fun p => decide (expE above below p % 2 = 1)) = e := ⟨_, rfl⟩
  refine ⟨fun σ H' => ∃ v5 v6 v7 v8 : Option V, σ = [some (.ref a), some (.ref b), some (.int ((rootE above below : Nat) : Int)), some (.int ((topE above below : Nat) : Int)), some (.int ((botE above below : Nat) : Int)), v5, v6, v7, v8] ∧ Same H H', ?_, fun σ H2 hM => ?_⟩
  · refine ⟨_, rfl, _, rfl, a, b, above, below, rfl, s1 _ _ hA, s1 _ _ hB, la0, la, lb, ha, hb, fun l us i H2 s2 hl hR hi hz => ?_⟩
    refine ⟨l, rfl, ⟨_, SqL.of hl⟩, for_list (xs := us.map V.ref) (fun j σ H' => ∃ v5 v6 v7 v8 : Option V, σ = [some (.ref a), some (.ref b), some (.int ((pickP eR ((pr30.take i).take j) : Nat) : Int)), some (.int ((powP eT ((pr30.take i).take j) : Nat) : Int)), some (.int ((powP eB ((pr30.take i).take j) : Nat) : Int)), v5, v6, v7, v8] ∧ H' = H2)
      ⟨none, none, none, none, rfl, rfl⟩ (fun j σ H' _ hP => ?_) (fun j x σ H' hx hP => ?_) (fun σ H' hP => ?_)⟩
    · obtain ⟨_, _, _, _, _, rfl⟩ := hP
      exact SqL.of hl
    · obtain ⟨v5, v6, v7, v8, rfl, rfl⟩ := hP
      obtain ⟨u, p, rfl, hp, hu⟩ := hR.get hx
      rw [take_at hp]
      have pm : p ∈ pr30 := List.mem_of_mem_take (List.mem_of_getElem? hp)
      have pb : p < 123 := (show ∀ p ∈ pr30, p < 123 by decide +kernel) p pm
      have sa := sumL_le ha p
      have sb := sumL_le hb p
      have ex : expE above below p = (sumL above p : Int) - (sumL below p : Int) := rfl
      refine ⟨u, _, rfl, SqT.of hu, rfl, _, _, rfl, _, _, rfl, rfl, ?_⟩
      refine ⟨_, rfl, expE above below p, 2, rfl, rfl, ⟨by decide, by decide⟩, ?_⟩
      have hm1 : ∀ z : Int, CMul z (p : Int) := fun z => .inr ⟨by omega, by omega⟩
      refine ⟨fun σ G => ∃ v8 : Option V, σ = [some (.ref a), some (.ref b), some (.int ((pickP eR ((pr30.take i).take j) : Nat) : Int)), some (.int ((powP eT ((pr30.take i).take j ++ [p]) : Nat) : Int)), some (.int ((powP eB ((pr30.take i).take j) : Nat) : Int)), some (.int (p : Int)), some (.int (expE above below p)), some (.int (expE above below p / 2)), v8] ∧ G = H', ?_, fun σ H3' hM => ?_⟩
      · refine ⟨_, rfl, expE above below p / 2, rfl, by omega, by omega, for_range (fun k σ G => ∃ v8 : Option V, σ = [some (.ref a), some (.ref b), some (.int ((pickP eR ((pr30.take i).take j) : Nat) : Int)), some (.int ((powP eT ((pr30.take i).take j) * p ^ k : Nat) : Int)), some (.int ((powP eB ((pr30.take i).take j) : Nat) : Int)), some (.int (p : Int)), some (.int (expE above below p)), some (.int (expE above below p / 2)), v8] ∧ G = H') ⟨v8, ?_, rfl⟩ (fun k σ H' hk hP => ?_) (fun σ H' hP => ?_)⟩
        · rw [Nat.pow_zero, Nat.mul_one]
          rfl
        · obtain ⟨v8, rfl, rfl⟩ := hP
          refine ⟨_, rfl, _, rfl, _, _, rfl, rfl, hm1 _, some (.int (0 + (k : Int))), ?_, rfl⟩
          rw [Nat.pow_succ, ← Nat.mul_assoc, Int.natCast_mul _ p]
          rfl
        · obtain ⟨v8, rfl, rfl⟩ := hP
          refine ⟨v8, ?_, rfl⟩
          rw [powP_snoc, ← heT]
      obtain ⟨w8, rfl, e3⟩ := hM
      replace e3 := e3.symm
      subst e3
      refine ⟨fun σ G => ∃ v8 : Option V, σ = [some (.ref a), some (.ref b), some (.int ((pickP eR ((pr30.take i).take j) : Nat) : Int)), some (.int ((powP eT ((pr30.take i).take j ++ [p]) : Nat) : Int)), some (.int ((powP eB ((pr30.take i).take j ++ [p]) : Nat) : Int)), some (.int (p : Int)), some (.int (expE above below p)), some (.int (expE above below p / 2)), v8] ∧ G = H', ?_, fun σ H4 hM => ?_⟩
      · refine ⟨_, rfl, _, rfl, -(expE above below p / 2), rfl, by omega, by omega, for_range (fun k σ G => ∃ v8 : Option V, σ = [some (.ref a), some (.ref b), some (.int ((pickP eR ((pr30.take i).take j) : Nat) : Int)), some (.int ((powP eT ((pr30.take i).take j ++ [p]) : Nat) : Int)), some (.int ((powP eB ((pr30.take i).take j) * p ^ k : Nat) : Int)), some (.int (p : Int)), some (.int (expE above below p)), some (.int (expE above below p / 2)), v8] ∧ G = H') ⟨w8, ?_, rfl⟩ (fun k σ H' hk hP => ?_) (fun σ H' hP => ?_)⟩
        · rw [Nat.pow_zero, Nat.mul_one]
        · obtain ⟨v8, rfl, rfl⟩ := hP
          refine ⟨_, rfl, _, rfl, _, _, rfl, rfl, hm1 _, some (.int (0 + (k : Int))), ?_, rfl⟩
          rw [Nat.pow_succ, ← Nat.mul_assoc, Int.natCast_mul _ p]
          rfl
        · obtain ⟨v8, rfl, rfl⟩ := hP
          refine ⟨v8, ?_, rfl⟩
          rw [powP_snoc eB, ← heB]
      clear w8
      obtain ⟨w8, rfl, e4⟩ := hM
      replace e4 := e4.symm
      subst e4
      refine ⟨_, rfl, expE above below p, rfl, _, rfl, ?_⟩
      by_cases ho : expE above below p % 2 = 1
      · refine iteD1 ho ?_
        refine ⟨_, rfl, _, rfl, _, _, rfl, rfl, hm1 _, some (.int (p : Int)), some (.int (expE above below p)), some (.int (expE above below p / 2)), w8, ?_, rfl⟩
        rw [pick_snoc, ← heR, if_pos (decide_eq_true ho), Int.natCast_mul _ p]
        rfl
      · refine iteD0 ho ?_
        refine ⟨some (.int (p : Int)), some (.int (expE above below p)), some (.int (expE above below p / 2)), w8, ?_, rfl⟩
        rw [pick_snoc, ← heR, if_neg (by dsimp only; rw [decide_eq_false ho]; exact Bool.false_ne_true), Nat.mul_one]
    · obtain ⟨v5, v6, v7, v8, rfl, rfl⟩ := hP
      refine ⟨v5, v6, v7, v8, ?_, s1.trans s2⟩
      have lu := hR.len
      have et : (pr30.take i).take (us.map V.ref).length = pr30.take i := by
        rw [List.length_map, lu, List.take_length]
      rw [et]
      have e1 : rootE above below = pickP eR (pr30.take i) := by
        unfold rootE
        rw [heR]
        conv => lhs; rw [← List.take_append_drop i pr30]
        rw [pick_append, pick_none (l := pr30.drop i) fun p hp => by rw [← heR]; dsimp only; rw [hz p hp]; rfl, Nat.mul_one]
      have e2 : topE above below = powP eT (pr30.take i) := by
        unfold topE
        rw [heT]
        conv => lhs; rw [← List.take_append_drop i pr30]
        rw [powP_append, powP_none (l := pr30.drop i) fun p hp => by rw [← heT]; dsimp only; rw [hz p hp]; rfl, Nat.mul_one]
      have e3 : botE above below = powP eB (pr30.take i) := by
        unfold botE
        rw [heB]
        conv => lhs; rw [← List.take_append_drop i pr30]
        rw [powP_append, powP_none (l := pr30.drop i) fun p hp => by rw [← heB]; dsimp only; rw [hz p hp]; rfl, Nat.mul_one]
      rw [e1, e2, e3]
  obtain ⟨v5, v6, v7, v8, rfl, s2⟩ := hM
  refine ⟨_, rfl, _, rfl, _, rfl, by show 3 ≤ sizeLine; decide, fun u hu => ?_⟩
  refine ⟨by show 1 ≤ sizeLine; decide, fun p hp => ?_⟩
  have s3 := same_upd (o := .tup [.int ((rootE above below : Nat) : Int), .int ((topE above below : Nat) : Int), .int ((botE above below : Nat) : Int)]) hu
  have s4 := same_upd (o := .tup [.ref u]) hp
  obtain ⟨c1, c2⟩ := rat_cop (botE_pos above below) (topE_cop above below)
  have hpar : parV ((rootE above below : Nat), Rat.divInt ((topE above below : Nat) : Int) ((botE above below : Nat) : Int)) = .tup [.int ((rootE above below : Nat) : Int), .int ((topE above below : Nat) : Int), .int ((botE above below : Nat) : Int)] := by
    unfold parV
    dsimp only
    rw [c1, c2]
  refine made_num (C := C) (L := rootL above below) ⟨[u], upd_same, ?_, trivial⟩ fun x H5 s5 hx hN => q x H5 ((s2.trans (s3.trans s4)).trans s5) ((s2.trans (s3.trans s4)).free hx) hN
  rw [hpar]
  exact s4 _ _ upd_same
end
end TC
namespace TC
open PySem PySem.Spec PyProof.Rows L2 TCX
def canB (a b c : Int) : Bool := !decide ((a + b + c) % 2 = 1) && (decide (a ≤ b + c) && (decide (b ≤ a + c) && decide (c ≤ a + b)))
theorem canB_iff {a b c : Int} : canB a b c = true ↔ (a + b + c) % 2 = 0 ∧ a ≤ b + c ∧ b ≤ a + c ∧ c ≤ a + b := by
  unfold canB
  simp only [Bool.and_eq_true, Bool.not_eq_true', decide_eq_true_eq, decide_eq_false_iff_not]
  omega
/-- a size and an offset of it -/
structure PairP (t o : Int) : Prop where
  t0 : 0 ≤ t
  t1 : t ≤ 40
  lo : -t ≤ o
  hi : o ≤ t
  ev : (t - o) % 2 = 0
section
variable {X : Cx}
theorem iop_mulW : OpR X (inplaceOp .Mult) (rI CMulW fun i j => .int (i * j)) := opI fun _ _ _ _ _ _ _ hc q => imul_int q hc.ok
end
section
variable {P : Program} {w : World} {K : PySem.W.Frag} {mg : Str → Option Value} {base : Heap} {f : Addr} {fd : FuncData} {C fI fQ : Addr}
/-! ### can_join -/
def spCanJoin : Sp := fun vs H Q _ => ∃ a b c : Int, vs = [.int a, .int b, .int c] ∧ Q (.bl (canB a b c)) H
abbrev nCanJoin : List Str := ["one", "other", "third"]
theorem scCanJoin : FnScope nCanJoin ["one", "other", "third"] (defScope sCanJoin) := ⟨rfl, rfl, rfl, by decide +kernel, rfl, by decide +kernel, by decide +kernel⟩
theorem ok_canJoin {fO : Addr} {fdO : FuncData} (F : FnP K "can_join" sCanJoin f fd) (GO : FnOk P w K mg base CX0 1 fO fdO ["number"] spOdd) (bO : L2.Binds K fdO ["number"] []) (kO : PySem.W.keepIn K (.ref fO) = true) (gO : mg "is_odd" = some (.ref fO)) :
    FnOk P w K mg base CX0 2 f fd ["one", "other", "third"] spCanJoin := by
  refine F.ok scCanJoin (fun vs H Q E h => ?_) (fun cdv A outer s H vs Q E hr h => ?_)
  · obtain ⟨_, _, _, rfl, _⟩ := h
    rfl
  obtain ⟨a, b, c, rfl, q⟩ := h
  have hr1 := hr.mono (j := 1) (by decide)
  refine ⟨_, PSs.nox (pss_cons (ps_if (pt_val (pe_call GO hr1 (by rfl) gO kO bO .nil pass0 (pa_cons (pe_op op_add (pe_op op_add (pv 0) (pv 1)) (pv 2)) pa_nil))) (pss_one (ps_ret pe_bl)) pss_nil)
      (pss_one (ps_ret (pe_and (pe_cmpR op_le (pv 0) (pe_op op_add (pv 1) (pv 2)) (nomark _)) (pe_and (pe_cmpR op_le (pv 1) (pe_op op_add (pv 0) (pv 2)) (nomark _)) (pe_one (pe_cmpR op_le (pv 2) (pe_op op_add (pv 0) (pv 1)) (nomark _)))))))), ?_⟩
  refine ⟨_, rfl, _, rfl, a, b, rfl, rfl, _, rfl, a + b, c, rfl, rfl, a + b + c, rfl, _, rfl, ?_⟩
  unfold canB at q
  by_cases h1 : (a + b + c) % 2 = 1
  · refine iteD1 h1 ?_
    rw [decide_eq_true h1] at q
    exact q
  refine iteD0 h1 ?_
  rw [decide_eq_false h1, show (!false) = true from rfl, Bool.true_and] at q
  refine ⟨_, rfl, _, rfl, _, rfl, b, c, rfl, rfl, a, b + c, rfl, rfl, _, rfl, ?_⟩
  by_cases h2 : a ≤ b + c
  · refine iteD1 h2 ?_
    rw [decide_eq_true h2, Bool.true_and] at q
    refine ⟨_, rfl, _, rfl, _, rfl, a, c, rfl, rfl, b, a + c, rfl, rfl, _, rfl, ?_⟩
    by_cases h3 : b ≤ a + c
    · refine iteD1 h3 ?_
      rw [decide_eq_true h3, Bool.true_and] at q
      exact ⟨_, rfl, _, rfl, _, rfl, a, b, rfl, rfl, c, a + b, rfl, rfl, q⟩
    · refine iteD0 h3 ?_
      rw [decide_eq_false h3, Bool.false_and] at q
      exact q
  · refine iteD0 h2 ?_
    rw [decide_eq_false h2, Bool.false_and] at q
    exact q
/-! ### is_size, is_offset, need_sizes, need_pairs, of what is right -/
def spIsSize : Sp := fun vs H Q _ => ∃ n : Int, vs = [.int n] ∧ 0 ≤ n ∧ n ≤ 40 ∧ Q (.bl true) H
abbrev nIsSize : List Str := ["thing"]
theorem scIsSize : FnScope nIsSize ["thing"] (defScope sIsSize) := ⟨rfl, rfl, rfl, by decide +kernel, rfl, by decide +kernel, by decide +kernel⟩
theorem ok_isSize {fW : Addr} {fdW : FuncData} {tH : Tok} (F : FnP K "is_size" sIsSize f fd) (GW : FnOk P w K mg base CX0 1 fW fdW ["thing"] spWhole) (bW : L2.Binds K fdW ["thing"] []) (kW : PySem.W.keepIn K (.ref fW) = true) (gW : mg "is_whole" = some (.ref fW)) (gH : mg "HIGHEST_SIZE" = some (.int 40 tH)) :
    FnOk P w K mg base CX0 2 f fd ["thing"] spIsSize := by
  refine F.ok scIsSize (fun vs H Q E h => ?_) (fun cdv A outer s H vs Q E hr h => ?_)
  · obtain ⟨_, rfl, _⟩ := h
    rfl
  obtain ⟨n, rfl, n0, n1, q⟩ := h
  have hr1 := hr.mono (j := 1) (by decide)
  refine ⟨_, PSs.nox (pss_one (ps_ret (pe_and (pe_call GW hr1 (by rfl) gW kW bW .nil pass0 (pa_cons (pv 0) pa_nil)) (pe_one (pe_chain op_le op_le pe_int (pv 0) (pe_glob (v := .int 40) (by rfl) gH ⟨_, rfl⟩)))))), ?_⟩
  refine ⟨_, rfl, n, rfl, true, rfl, iteT ?_⟩
  refine ⟨_, rfl, 0, n, rfl, rfl, true, congrArg V.bl (decide_eq_true n0), iteT ?_⟩
  refine ⟨n, 40, rfl, rfl, ?_⟩
  show Q (.bl (decide (n ≤ 40))) _
  rw [decide_eq_true n1]
  exact q
def spIsOffset : Sp := fun vs H Q _ => ∃ t o : Int, vs = [.int o, .int t] ∧ PairP t o ∧ Q (.bl true) H
abbrev nIsOffset : List Str := ["thing", "size"]
theorem scIsOffset : FnScope nIsOffset ["thing", "size"] (defScope sIsOffset) := ⟨rfl, rfl, rfl, by decide +kernel, rfl, by decide +kernel, by decide +kernel⟩
theorem ok_isOffset {fW fO : Addr} {fdW fdO : FuncData} (F : FnP K "is_offset" sIsOffset f fd) (GW : FnOk P w K mg base CX0 1 fW fdW ["thing"] spWhole) (bW : L2.Binds K fdW ["thing"] []) (kW : PySem.W.keepIn K (.ref fW) = true) (gW : mg "is_whole" = some (.ref fW))
    (GO : FnOk P w K mg base CX0 1 fO fdO ["number"] spOdd) (bO : L2.Binds K fdO ["number"] []) (kO : PySem.W.keepIn K (.ref fO) = true) (gO : mg "is_odd" = some (.ref fO)) :
    FnOk P w K mg base CX0 2 f fd ["thing", "size"] spIsOffset := by
  refine F.ok scIsOffset (fun vs H Q E h => ?_) (fun cdv A outer s H vs Q E hr h => ?_)
  · obtain ⟨_, _, rfl, _⟩ := h
    rfl
  obtain ⟨t, o, rfl, ⟨t0, t1, h1, h2, h3⟩, q⟩ := h
  have hr1 := hr.mono (j := 1) (by decide)
  refine ⟨_, PSs.nox (pss_one (ps_ret (pe_and (pe_call GW hr1 (by rfl) gW kW bW .nil pass0 (pa_cons (pv 0) pa_nil)) (pe_and (pe_chain op_le op_le (pe_un un_neg (pv 1)) (pv 0) (pv 1)) (pe_one (pe_not (pe_call GO hr1 (by rfl) gO kO bO .nil pass0 (pa_cons (pe_op op_sub (pv 1) (pv 0)) pa_nil)))))))), ?_⟩
  refine ⟨_, rfl, o, rfl, true, rfl, iteT ?_⟩
  refine ⟨_, rfl, t, rfl, _, rfl, -t, o, rfl, rfl, true, congrArg V.bl (decide_eq_true h1), iteT ?_⟩
  refine ⟨_, rfl, o, t, rfl, rfl, true, congrArg V.bl (decide_eq_true h2), iteT ?_⟩
  refine ⟨_, rfl, _, rfl, t, o, rfl, rfl, t - o, rfl, false, congrArg V.bl (decide_eq_false (by omega)), q⟩
def spNeedSizes : Sp := fun vs H Q _ => ∃ (l : Addr) (ns : List Int), vs = [.ref l] ∧ H l = some (.lst (ns.map V.int)) ∧ (∀ n ∈ ns, 0 ≤ n ∧ n ≤ 40) ∧ Q .non H
abbrev nNeedSizes : List Str := ["things", "thing"]
theorem scNeedSizes : FnScope nNeedSizes ["things"] (defScope sNeedSizes) := ⟨rfl, rfl, rfl, by decide +kernel, rfl, by decide +kernel, by decide +kernel⟩
theorem ok_needSizes {fS : Addr} {fdS : FuncData} (F : FnP K "need_sizes" sNeedSizes f fd) (GS : FnOk P w K mg base CX0 2 fS fdS ["thing"] spIsSize) (bS : L2.Binds K fdS ["thing"] []) (kS : PySem.W.keepIn K (.ref fS) = true) (gS : mg "is_size" = some (.ref fS)) :
    FnOk P w K mg base CX0 3 f fd ["things"] spNeedSizes := by
  refine F.ok scNeedSizes (fun vs H Q E h => ?_) (fun cdv A outer s H vs Q E hr h => ?_)
  · obtain ⟨_, _, rfl, _⟩ := h
    rfl
  obtain ⟨l, ns, rfl, hl, hn, q⟩ := h
  have hr2 := hr.mono (j := 2) (by decide)
  refine ⟨_, PSs.nox (pss_one (ps_for PassesOwn.never rfl (pi_list (pv 0)) (pg_name (i := 1) scNeedSizes.nd rfl (.inl rfl))
        (pss_one (ps_if (pt_not (pt_val (pe_call GS hr2 (by rfl) gS kS bS .nil pass0 (pa_cons (pv 1) pa_nil)))) pss_never pss_nil)))), ?_⟩
  refine ⟨_, rfl, l, rfl, ⟨_, SqL.of hl⟩, for_list (xs := ns.map V.int) (fun i σ H' => (∃ v, σ = [some (.ref l), v]) ∧ H' = H) ⟨⟨none, rfl⟩, rfl⟩ (fun i σ H' _ hP => by rw [hP.2]; exact SqL.of hl) (fun i x σ H' hx hP => ?_) (fun σ H' hP => by rw [hP.2]; exact q)⟩
  obtain ⟨⟨v, rfl⟩, rfl⟩ := hP
  rw [List.getElem?_map] at hx
  cases e : ns[i]? with
  | none =>
    rw [e] at hx
    cases hx
  | some n =>
    rw [e] at hx
    obtain rfl := Option.some.inj hx
    obtain ⟨n0, n1⟩ := hn n (List.mem_of_getElem? e)
    exact ⟨_, rfl, n, rfl, n0, n1, true, rfl, iteF ⟨⟨_, rfl⟩, rfl⟩⟩
/-- pairs on the heap -/
def pairO (x : Int × Int) : HO := .tup [.int x.1, .int x.2]
def PrsAt (H : Hp) : List Addr → List (Int × Int) → Prop
  | [], [] => True
  | u :: us, x :: L => H u = some (pairO x) ∧ PrsAt H us L
  | _, _ => False
theorem PrsAt.get {H : Hp} : ∀ {us : List Addr} {L : List (Int × Int)} {i : Nat} {v : V}, PrsAt H us L → (us.map V.ref)[i]? = some v → ∃ u x, v = .ref u ∧ L[i]? = some x ∧ H u = some (pairO x)
  | [], [], i, v, _, z => by simp at z
  | u :: us, p :: ps, 0, v, h, z => ⟨u, p, (Option.some.inj z).symm, rfl, h.1⟩
  | u :: us, p :: ps, i + 1, v, h, z => by
    have z' : (us.map V.ref)[i]? = some v := z
    obtain ⟨u', p', a, b, c⟩ := PrsAt.get h.2 z'
    exact ⟨u', p', a, b, c⟩
  | [], _ :: _, _, _, h, _ => h.elim
  | _ :: _, [], _, _, h, _ => h.elim
theorem PrsAt.same {H H' : Hp} (s : Same H H') : ∀ {us : List Addr} {L : List (Int × Int)}, PrsAt H us L → PrsAt H' us L
  | [], [], _ => trivial
  | _ :: _, _ :: _, h => ⟨s _ _ h.1, PrsAt.same s h.2⟩
  | [], _ :: _, h => h.elim
  | _ :: _, [], h => h.elim
end
end TC
namespace TCX
set_option exponentiation.threshold 20000
theorem fact_lt : ∀ n, n < 62 → factN n < 2 ^ 280 := by decide +kernel
def foldF (g : Int → Nat) (m : Nat) (l : List Int) : Nat := l.foldl (fun m x => m * factN (g x)) m
theorem foldF_snoc (g : Int → Nat) (m : Nat) (l : List Int) (x : Int) : foldF g m (l ++ [x]) = foldF g m l * factN (g x) := by
  unfold foldF
  rw [List.foldl_append]
  rfl
theorem foldF_lt {g : Int → Nat} : ∀ {l : List Int} {m B : Nat}, (∀ x ∈ l, g x < 62) → m < 2 ^ B → foldF g m l < 2 ^ (B + 280 * l.length)
  | [], m, B, _, hm => hm
  | x :: l, m, B, h, hm => by
    have h1 : m * factN (g x) < 2 ^ (B + 280) := by
      rw [Nat.pow_add]
      exact Nat.mul_lt_mul'' hm (fact_lt _ (h x (by simp)))
    have h2 := foldF_lt (l := l) (fun y hy => h y (List.mem_cons_of_mem _ hy)) h1
    show foldF g (m * factN (g x)) l < 2 ^ (B + 280 * (l.length + 1))
    rw [show B + 280 * (l.length + 1) = B + 280 + 280 * l.length by omega]
    exact h2
end TCX
namespace TC
set_option exponentiation.threshold 20000
open PySem PySem.Spec PyProof.Rows L2 TCX
theorem PrsAt.snoc {H : Hp} {u : Addr} {x : Int × Int} (hu : H u = some (pairO x)) : ∀ {us : List Addr} {L : List (Int × Int)}, PrsAt H us L → PrsAt H (us ++ [u]) (L ++ [x])
  | [], [], _ => ⟨hu, trivial⟩
  | _ :: _, _ :: _, h => ⟨h.1, PrsAt.snoc hu h.2⟩
  | [], _ :: _, h => h.elim
  | _ :: _, [], h => h.elim
theorem PrsAt.upd {H : Hp} {l : Addr} {o : HO} (hl : ∀ x, H l ≠ some (.tup x)) : ∀ {us : List Addr} {L : List (Int × Int)}, PrsAt H us L → PrsAt (L2.upd H l o) us L
  | [], [], _ => trivial
  | u :: us, p :: ps, h => ⟨by
    rw [upd_ne fun z => hl _ (by rw [← z]; exact h.1)]
    exact h.1, PrsAt.upd hl h.2⟩
  | [], _ :: _, h => h.elim
  | _ :: _, [], h => h.elim
theorem PrsAt.len {H : Hp} : ∀ {us : List Addr} {L : List (Int × Int)}, PrsAt H us L → us.length = L.length
  | [], [], _ => rfl
  | _ :: _, _ :: _, h => congrArg Nat.succ (PrsAt.len h.2)
  | [], _ :: _, h => h.elim
  | _ :: _, [], h => h.elim
theorem ints_at {l : List Int} {i : Nat} {x : V} (h : (l.map V.int)[i]? = some x) : ∃ n : Int, l[i]? = some n ∧ x = .int n := by
  rw [List.getElem?_map] at h
  cases e : l[i]? with
  | none =>
    rw [e] at h
    cases h
  | some n =>
    rw [e] at h
    exact ⟨n, rfl, (Option.some.inj h).symm⟩
theorem take_atI {l : List Int} {i : Nat} {n : Int} (h : l[i]? = some n) : l.take (i + 1) = l.take i ++ [n] := by
  rw [List.take_add_one, h]
  rfl
def factsL (n : Nat) : List V := (List.range (n + 1)).map fun m => V.int (factN m : Nat)
theorem facts_at {n : Nat} {i : Int} (h0 : 0 ≤ i) (h1 : i ≤ n) : atI (factsL n) i = some (.int (factN i.toNat : Nat)) := by
  refine at_of (j := i.toNat) (by omega) ?_
  unfold factsL
  rw [List.getElem?_map, List.getElem?_range (by omega)]
  rfl
/-- signs and bottoms -/
def tmL (A B C : Nat) (D E : Int) (lo n : Nat) : List (Int × Int) := (List.range n).map fun i => (sgK (lo + i), ((botK A B C D E (lo + i) : Nat) : Int))
theorem tmL_succ (A B C : Nat) (D E : Int) (lo n : Nat) : tmL A B C D E lo (n + 1) = tmL A B C D E lo n ++ [(sgK (lo + n), ((botK A B C D E (lo + n) : Nat) : Int))] := by
  unfold tmL
  rw [List.range_succ, List.map_append]
  rfl
section
variable {P : Program} {w : World} {K : PySem.W.Frag} {mg : Str → Option Value} {base : Heap} {f : Addr} {fd : FuncData} {C fI fQ : Addr}
/-! ### terms_of_joined -/
structure TmP (a u b v c : Int) (A B C : Nat) (D E : Int) (s : Nat) : Prop where
  eA : (a + b - c) / 2 = A
  eB : (a - u) / 2 = B
  eC : (b + v) / 2 = C
  eD : (c - b + u) / 2 = D
  eE : (c - a - v) / 2 = E
  eS : (a + b + c) / 2 = s
  lA : A ≤ s
  lB : B ≤ s
  lC : C ≤ s
  lD : B + D ≤ s
  lE : C + E ≤ s
  s1 : s < 62
def spTerms : Sp := fun vs H Q _ => ∃ (p1 p2 : Addr) (a u b v c : Int) (A B C : Nat) (D E : Int) (s : Nat), vs = [.ref p1, .ref p2, .int c] ∧ H p1 = some (pairO (a, u)) ∧ H p2 = some (pairO (b, v)) ∧ TmP a u b v c A B C D E s ∧
  ∀ (l : Addr) (us : List Addr) (lo hi : Int) H', Same H H' → H' l = some (.lst (us.map V.ref)) → 0 ≤ lo → (∀ k : Nat, okK A B C D E k = true ↔ lo ≤ k ∧ (k : Int) ≤ hi) → hi ≤ A → PrsAt H' us (tmL A B C D E lo.toNat (hi + 1 - lo).toNat) → Q (.ref l) H'
abbrev nTerms : List Str := ["one", "other", "c", "a", "u", "b", "v", "falling", "rising", "known", "terms", "k", "bottom", "number"]
theorem scTerms : FnScope nTerms ["one", "other", "c"] (defScope sTerms) := ⟨rfl, rfl, rfl, by decide +kernel, rfl, by decide +kernel, by decide +kernel⟩
theorem ok_terms {fA fO : Addr} {fdA fdO : FuncData} (F : FnP K "terms_of_joined" sTerms f fd) (GA : FnOk P w K mg base CX0 1 fA fdA ["high"] spFacts) (bA : L2.Binds K fdA ["high"] []) (kA : PySem.W.keepIn K (.ref fA) = true) (gA : mg "factorials" = some (.ref fA))
    (GO : FnOk P w K mg base CX0 1 fO fdO ["number"] spOdd) (bO : L2.Binds K fdO ["number"] []) (kO : PySem.W.keepIn K (.ref fO) = true) (gO : mg "is_odd" = some (.ref fO)) (gmin : mg "min" = none) (grange : mg "range" = none) :
    FnOk P w K mg base CX0 2 f fd ["one", "other", "c"] spTerms := by
  refine F.ok scTerms (fun vs H Q E h => ?_) (fun cdv Ar outer s H vs Q E' hr h => ?_)
  · obtain ⟨_, _, _, _, _, _, _, _, _, _, _, _, _, rfl, _⟩ := h
    rfl
  obtain ⟨p1, p2, a, u, b, v, c, A, B, C, D, E, S, rfl, hp1, hp2, ⟨eA, eB, eC, eD, eE, eS, lA, lB, lC, lD, lE, s1⟩, q⟩ := h
  have hr1 := hr.mono (j := 1) (by decide)
  refine ⟨_, PSs.nox (C8.pss_cut (ps_asg (pe_tup (pa_cons (pv 0) (pa_cons (pv 1) pa_nil))) (pg_tup rfl (pgs_cons (pg_tup rfl (pgs_cons (pg_name (i := 3) scTerms.nd rfl (.inl rfl)) (pgs_cons (pg_name (i := 4) scTerms.nd rfl (.inl rfl)) pgs_nil))) (pgs_cons (pg_tup rfl (pgs_cons (pg_name (i := 5) scTerms.nd rfl (.inl rfl)) (pgs_cons (pg_name (i := 6) scTerms.nd rfl (.inl rfl)) pgs_nil))) pgs_nil))))
      (pss_cons (ps_set (i := 7) scTerms.nd rfl (.inl rfl) (pe_lst (pa_cons (pe_op op_fdiv (pe_op op_sub (pe_op op_add (pv 3) (pv 5)) (pv 2)) pe_int) (pa_cons (pe_op op_fdiv (pe_op op_sub (pv 3) (pv 4)) pe_int) (pa_cons (pe_op op_fdiv (pe_op op_add (pv 5) (pv 6)) pe_int) pa_nil)))))
      (pss_cons (ps_set (i := 8) scTerms.nd rfl (.inl rfl) (pe_lst (pa_cons pe_int (pa_cons (pe_op op_fdiv (pe_op op_add (pe_op op_sub (pv 2) (pv 5)) (pv 4)) pe_int) (pa_cons (pe_op op_fdiv (pe_op op_sub (pe_op op_sub (pv 2) (pv 3)) (pv 6)) pe_int) pa_nil)))))
      (pss_cons (ps_set (i := 9) scTerms.nd rfl (.inl rfl) (pe_call GA hr1 (by rfl) gA kA bA .nil pass0 (pa_cons (pe_op op_fdiv (pe_op op_add (pe_op op_add (pv 3) (pv 5)) (pv 2)) pe_int) pa_nil)))
      (C8.pss_cut (ps_set (i := 10) scTerms.nd rfl (.inl rfl) (pe_lst pa_nil))
      (pss_cons (ps_for PassesOwn.never rfl (pi_range2 (by rfl) grange (pa_cons (pe_un un_neg (pe_callB (cr_min rfl) (by rfl) gmin (by decide +kernel) (pa_cons (pv 8) pa_nil))) (pa_cons (pe_op op_add (pe_callB (cr_min rfl) (by rfl) gmin (by decide +kernel) (pa_cons (pv 7) pa_nil)) pe_int) pa_nil))) (pg_name (i := 11) scTerms.nd rfl (.inl rfl))
        (pss_cons (ps_set (i := 12) scTerms.nd rfl (.inl rfl) pe_int)
      (C8.pss_cut (ps_for PassesOwn.never rfl (pi_list (pv 7)) (pg_name (i := 13) scTerms.nd rfl (.inl rfl))
        (pss_one (ps_aug (i := 12) scTerms.nd rfl (.inl rfl) (pe_ix ix_list (pv 9) (pe_op op_sub (pv 13) (pv 11)) (fun _ _ => rfl)) iop_mulW)))
      (C8.pss_cut (ps_for PassesOwn.never rfl (pi_list (pv 8)) (pg_name (i := 13) scTerms.nd rfl (.inl rfl))
        (pss_one (ps_aug (i := 12) scTerms.nd rfl (.inl rfl) (pe_ix ix_list (pv 9) (pe_op op_add (pv 13) (pv 11)) (fun _ _ => rfl)) iop_mulW)))
      (pss_one (ps_expr (pe_bm PySem.F.plainAttrs_list PySem.F.slot_list_append PySem.F.type_list_append mt_append (pv 10) (pa_cons (pe_tup (pa_cons (pe_ifExp (pt_val (pe_call GO hr1 (by rfl) gO kO bO .nil pass0 (pa_cons (pv 11) pa_nil))) (pe_un un_neg pe_int) pe_int) (pa_cons (pv 12) pa_nil))) pa_nil))))))))
      (pss_one (ps_ret (pv 10))))))))), ?_⟩
  refine ⟨fun σ H' => σ = [some (.ref p1), some (.ref p2), some (.int c), some (.int a), some (.int u), some (.int b), some (.int v), none, none, none, none, none, none, none] ∧ Same H H', ?_, fun σ H1 hM => ?_⟩
  · refine ⟨_, rfl, _, rfl, by show 2 ≤ sizeLine; decide, fun l hl => ?_⟩
    have s2 := same_upd (o := .tup [.ref p1, .ref p2]) hl
    exact ⟨l, _, rfl, SqT.of upd_same, rfl, _, _, rfl, p1, _, rfl, SqT.of (s2 _ _ hp1), rfl, _, _, rfl, _, _, rfl, rfl, _, _, rfl, p2, _, rfl, SqT.of (s2 _ _ hp2), rfl, _, _, rfl, _, _, rfl, rfl, rfl, rfl, s2⟩
  obtain ⟨rfl, t1⟩ := hM
  have d2 : ∀ z : Int, CDiv z 2 := fun _ => ⟨by decide, by decide⟩
  refine ⟨_, rfl, _, rfl, a, b, rfl, rfl, _, rfl, a + b, c, rfl, rfl, a + b - c, 2, rfl, rfl, d2 _, _, rfl, _, rfl, a, u, rfl, rfl, a - u, 2, rfl, rfl, d2 _, _, rfl, _, rfl, b, v, rfl, rfl, b + v, 2, rfl, rfl, d2 _, by show 3 ≤ sizeLine; decide, fun fl hfl => ?_⟩
  have t2 := same_upd (o := .lst ([(A : Int), (B : Int), (C : Int)].map V.int)) hfl
  have eF : HO.lst [V.int ((a + b - c) / 2), V.int ((a - u) / 2), V.int ((b + v) / 2)] = .lst ([(A : Int), (B : Int), (C : Int)].map V.int) := by rw [eA, eB, eC]; rfl
  rw [eF]
  refine ⟨_, rfl, _, rfl, c, b, rfl, rfl, _, rfl, c - b, u, rfl, rfl, c - b + u, 2, rfl, rfl, d2 _, _, rfl, _, rfl, c, a, rfl, rfl, _, rfl, c - a, v, rfl, rfl, c - a - v, 2, rfl, rfl, d2 _, by show 3 ≤ sizeLine; decide, fun ri hri => ?_⟩
  have eR : HO.lst [V.int 0, V.int ((c - b + u) / 2), V.int ((c - a - v) / 2)] = .lst ([(0 : Int), D, E].map V.int) := by rw [eD, eE]; rfl
  rw [eR]
  have t3 := same_upd (o := .lst ([(0 : Int), D, E].map V.int)) hri
  refine ⟨_, rfl, _, rfl, a, b, rfl, rfl, _, rfl, a + b, c, rfl, rfl, a + b + c, 2, rfl, rfl, d2 _, S, congrArg (fun z => [V.int z]) eS, by omega, fun kn hkn => ?_⟩
  have t4 := same_upd (o := .lst (factsL S)) hkn
  refine ⟨fun σ G => ∃ l : Addr, σ = [some (.ref p1), some (.ref p2), some (.int c), some (.int a), some (.int u), some (.int b), some (.int v), some (.ref fl), some (.ref ri), some (.ref kn), some (.ref l), none, none, none] ∧ Same H G ∧ H l = none ∧ fl ≠ l ∧ ri ≠ l ∧ kn ≠ l ∧ G l = some (.lst []) ∧ G fl = some (.lst ([(A : Int), (B : Int), (C : Int)].map V.int)) ∧ G ri = some (.lst ([(0 : Int), D, E].map V.int)) ∧ G kn = some (.lst (factsL S)), ?_, fun σ H5 hM => ?_⟩
  · refine ⟨by show 0 ≤ sizeLine; decide, fun l hl => ?_⟩
    have t5 := same_upd (o := .lst []) hl
    have f4 := t4 _ _ (t3 _ _ upd_same)
    have r4 := t4 _ _ upd_same
    exact ⟨l, rfl, (((t1.trans t2).trans t3).trans t4).trans t5, (((t1.trans t2).trans t3).trans t4).free hl, ne_of_none f4 hl, ne_of_none r4 hl, ne_of_none upd_same hl, upd_same, t5 _ _ f4, t5 _ _ r4, t5 _ _ upd_same⟩
  obtain ⟨l, rfl, tA, lfree, nlf, nlr, nlk, hl5, hfl5, hri5, hkn5⟩ := hM
  refine ⟨_, rfl, ri, [0, D, E], rfl, SqL.of hri5, by show 0 < 3; decide, fun m1 hm1 hm1' => ?_⟩
  refine ⟨m1, rfl, _, rfl, fl, [(A : Int), (B : Int), (C : Int)], rfl, SqL.of hfl5, by show 0 < 3; decide, fun m2 hm2 hm2' => ?_⟩
  refine ⟨m2, 1, rfl, rfl, ?_⟩
  have m10 := hm1' 0 (by simp)
  have m1D := hm1' D (by simp)
  have m1E := hm1' E (by simp)
  have m2A := hm2' (A : Int) (by simp)
  have m2B := hm2' (B : Int) (by simp)
  have m2C := hm2' (C : Int) (by simp)
  have hm1c : m1 = 0 ∨ m1 = D ∨ m1 = E := by simpa using hm1
  have hm2c : m2 = A ∨ m2 = B ∨ m2 = C := by simpa using hm2
  have ok : ∀ k : Nat, okK A B C D E k = true ↔ -m1 ≤ k ∧ (k : Int) ≤ m2 := fun k => by
    unfold okK
    rw [decide_eq_true_eq]
    omega
  refine ⟨-m1, m2 + 1, rfl, ⟨by omega, by omega, by omega, by omega⟩, for_range (fun i σ H' => ∃ (v11 v12 v13 : Option V) (us : List Addr), σ = [some (.ref p1), some (.ref p2), some (.int c), some (.int a), some (.int u), some (.int b), some (.int v), some (.ref fl), some (.ref ri), some (.ref kn), some (.ref l), v11, v12, v13] ∧ Same H H' ∧ H' l = some (.lst (us.map V.ref)) ∧ H' fl = some (.lst ([(A : Int), (B : Int), (C : Int)].map V.int)) ∧ H' ri = some (.lst ([(0 : Int), D, E].map V.int)) ∧ H' kn = some (.lst (factsL S)) ∧ PrsAt H' us (tmL A B C D E (-m1).toNat i))
    ⟨none, none, none, [], rfl, tA, hl5, hfl5, hri5, hkn5, trivial⟩ (fun i σ H' hi hP => ?_) (fun σ H' hP => ?_)⟩
  rotate_left
  · obtain ⟨v11, v12, v13, us, rfl, sm, hll, _, _, _, hR⟩ := hP
    exact ⟨_, rfl, q l us (-m1) m2 H' sm hll (by omega) ok (by omega) hR⟩
  obtain ⟨v11, v12, v13, us, rfl, sm, hll, hfl', hri', hkn', hR⟩ := hP
  obtain ⟨kN, ekN⟩ : ∃ k : Nat, (-m1).toNat + i = k := ⟨_, rfl⟩
  have ek : -m1 + (i : Int) = (kN : Int) := by omega
  rw [ek]
  have hk := (ok kN).mpr ⟨by omega, by omega⟩
  obtain ⟨k1, k2, k3, k4, k5⟩ := of_decide_eq_true hk
  refine ⟨fun σ G => ∃ v13 : Option V, σ = [some (.ref p1), some (.ref p2), some (.int c), some (.int a), some (.int u), some (.int b), some (.int v), some (.ref fl), some (.ref ri), some (.ref kn), some (.ref l), some (.int (kN : Int)), some (.int ((foldF (fun x => (x - kN).toNat) 1 [(A : Int), (B : Int), (C : Int)] : Nat) : Int)), v13] ∧ G = H', ?_, fun σ G hM => ?_⟩
  · refine ⟨_, rfl, fl, rfl, ⟨_, SqL.of hfl'⟩, for_list (xs := [(A : Int), (B : Int), (C : Int)].map V.int) (fun j σ G => ∃ v13 : Option V, σ = [some (.ref p1), some (.ref p2), some (.int c), some (.int a), some (.int u), some (.int b), some (.int v), some (.ref fl), some (.ref ri), some (.ref kn), some (.ref l), some (.int (kN : Int)), some (.int ((foldF (fun x => (x - kN).toNat) 1 ([(A : Int), (B : Int), (C : Int)].take j) : Nat) : Int)), v13] ∧ G = H') ⟨v13, rfl, rfl⟩ (fun j σ G _ hP => ?_) (fun j x σ G hx hP => ?_) (fun σ G hP => ?_)⟩
    · obtain ⟨_, _, rfl⟩ := hP
      exact SqL.of hfl'
    · obtain ⟨v13, rfl, rfl⟩ := hP
      obtain ⟨n, hn, rfl⟩ := ints_at hx
      have nm : n = A ∨ n = B ∨ n = C := by simpa using List.mem_of_getElem? hn
      have gl : ∀ x ∈ [(A : Int), (B : Int), (C : Int)].take j, (x - (kN : Int)).toNat < 62 := fun x hx => by
        have : x = A ∨ x = B ∨ x = C := by simpa using List.mem_of_mem_take hx
        omega
      have b1 := foldF_lt (g := fun x => (x - (kN : Int)).toNat) (B := 1) (m := 1) gl (by decide)
      have b2 : foldF (fun x => (x - (kN : Int)).toNat) 1 ([(A : Int), (B : Int), (C : Int)].take j) < 2 ^ 1000 := Nat.lt_of_lt_of_le b1 (Nat.pow_le_pow_right (by decide) (by rw [List.length_take]; show 1 + 280 * min j 3 ≤ 1000; omega))
      refine ⟨_, rfl, _, rfl, _, rfl, _, rfl, n, kN, rfl, rfl, kn, _, _, _, rfl, rfl, SqL.of hkn', facts_at (by omega) (by omega), _, _, rfl, rfl, cmulw (nat_bits b2) (nat_bits (fact_lt (n - (kN : Int)).toNat (by omega))) (by decide) (by decide) (by decide), some (.int n), ?_, rfl⟩
      rw [take_atI hn, foldF_snoc, Int.natCast_mul]
      rfl
    · obtain ⟨v13, rfl, rfl⟩ := hP
      exact ⟨v13, rfl, rfl⟩
  obtain ⟨w13, rfl, eG⟩ := hM
  replace eG := eG.symm
  subst eG
  have fB : foldF (fun x => (x - (kN : Int)).toNat) 1 [(A : Int), (B : Int), (C : Int)] < 2 ^ 1000 := Nat.lt_of_lt_of_le (foldF_lt (g := fun x => (x - (kN : Int)).toNat) (B := 1) (m := 1) (fun x hx => by
    have : x = A ∨ x = B ∨ x = C := by simpa using hx
    omega) (by decide)) (Nat.pow_le_pow_right (by decide) (by show 1 + 280 * 3 ≤ 1000; decide))
  refine ⟨fun σ G => ∃ v13 : Option V, σ = [some (.ref p1), some (.ref p2), some (.int c), some (.int a), some (.int u), some (.int b), some (.int v), some (.ref fl), some (.ref ri), some (.ref kn), some (.ref l), some (.int (kN : Int)), some (.int ((botK A B C D E kN : Nat) : Int)), v13] ∧ G = H', ?_, fun σ G hM => ?_⟩
  · refine ⟨_, rfl, ri, rfl, ⟨_, SqL.of hri'⟩, for_list (xs := [(0 : Int), D, E].map V.int) (fun j σ G => ∃ v13 : Option V, σ = [some (.ref p1), some (.ref p2), some (.int c), some (.int a), some (.int u), some (.int b), some (.int v), some (.ref fl), some (.ref ri), some (.ref kn), some (.ref l), some (.int (kN : Int)), some (.int ((foldF (fun x => (x + kN).toNat) (foldF (fun x => (x - kN).toNat) 1 [(A : Int), (B : Int), (C : Int)]) ([(0 : Int), D, E].take j) : Nat) : Int)), v13] ∧ G = H') ⟨w13, rfl, rfl⟩ (fun j σ G _ hP => ?_) (fun j x σ G hx hP => ?_) (fun σ G hP => ?_)⟩
    · obtain ⟨_, _, rfl⟩ := hP
      exact SqL.of hri'
    · obtain ⟨v13, rfl, rfl⟩ := hP
      obtain ⟨n, hn, rfl⟩ := ints_at hx
      have nm : n = 0 ∨ n = D ∨ n = E := by simpa using List.mem_of_getElem? hn
      have gl : ∀ x ∈ [(0 : Int), D, E].take j, (x + (kN : Int)).toNat < 62 := fun x hx => by
        have : x = 0 ∨ x = D ∨ x = E := by simpa using List.mem_of_mem_take hx
        omega
      have b1 := foldF_lt (g := fun x => (x + (kN : Int)).toNat) gl fB
      have b2 : foldF (fun x => (x + (kN : Int)).toNat) (foldF (fun x => (x - (kN : Int)).toNat) 1 [(A : Int), (B : Int), (C : Int)]) ([(0 : Int), D, E].take j) < 2 ^ 2000 := Nat.lt_of_lt_of_le b1 (Nat.pow_le_pow_right (by decide) (by rw [List.length_take]; show 1000 + 280 * min j 3 ≤ 2000; omega))
      refine ⟨_, rfl, _, rfl, _, rfl, _, rfl, n, kN, rfl, rfl, kn, _, _, _, rfl, rfl, SqL.of hkn', facts_at (by omega) (by omega), _, _, rfl, rfl, cmulw (nat_bits b2) (nat_bits (fact_lt (n + (kN : Int)).toNat (by omega))) (by decide) (by decide) (by decide), some (.int n), ?_, rfl⟩
      rw [take_atI hn, foldF_snoc, Int.natCast_mul]
      rfl
    · obtain ⟨v13, rfl, rfl⟩ := hP
      refine ⟨v13, ?_, rfl⟩
      have e : foldF (fun x => (x + (kN : Int)).toNat) (foldF (fun x => (x - (kN : Int)).toNat) 1 [(A : Int), (B : Int), (C : Int)]) [(0 : Int), D, E] = botK A B C D E kN := by
        show 1 * factN ((A : Int) - kN).toNat * factN ((B : Int) - kN).toNat * factN ((C : Int) - kN).toNat * factN ((0 : Int) + kN).toNat * factN (D + kN).toNat * factN (E + kN).toNat = _
        unfold botK
        rw [show ((A : Int) - kN).toNat = A - kN by omega, show ((B : Int) - kN).toNat = B - kN by omega, show ((C : Int) - kN).toNat = C - kN by omega, show ((0 : Int) + kN).toNat = kN by omega, Nat.one_mul]
        simp only [Nat.mul_assoc, Nat.mul_left_comm, Nat.mul_comm]
      rw [← e]
      rfl
  clear w13
  obtain ⟨w13, rfl, eG⟩ := hM
  replace eG := eG.symm
  subst eG
  have sg : decide ((kN : Int) % 2 = 1) = decide (kN % 2 = 1) := by
    by_cases z : kN % 2 = 1
    · rw [decide_eq_true z, decide_eq_true (by omega)]
    · rw [decide_eq_false z, decide_eq_false (by omega)]
  have fin : ∀ u' : Addr, H' u' = none → ∃ (v11 v12 v13 : Option V) (us' : List Addr), [some (.ref p1), some (.ref p2), some (.int c), some (.int a), some (.int u), some (.int b), some (.int v), some (.ref fl), some (.ref ri), some (.ref kn), some (.ref l), some (.int (kN : Int)), some (.int ((botK A B C D E kN : Nat) : Int)), w13] = [some (.ref p1), some (.ref p2), some (.int c), some (.int a), some (.int u), some (.int b), some (.int v), some (.ref fl), some (.ref ri), some (.ref kn), some (.ref l), v11, v12, v13] ∧ Same H (upd (upd H' u' (.tup [.int (sgK kN), .int ((botK A B C D E kN : Nat) : Int)])) l (.lst (us.map V.ref ++ [.ref u']))) ∧
      (upd (upd H' u' (.tup [.int (sgK kN), .int ((botK A B C D E kN : Nat) : Int)])) l (.lst (us.map V.ref ++ [.ref u']))) l = some (.lst (us'.map V.ref)) ∧ (upd (upd H' u' (.tup [.int (sgK kN), .int ((botK A B C D E kN : Nat) : Int)])) l (.lst (us.map V.ref ++ [.ref u']))) fl = some (.lst ([(A : Int), (B : Int), (C : Int)].map V.int)) ∧
      (upd (upd H' u' (.tup [.int (sgK kN), .int ((botK A B C D E kN : Nat) : Int)])) l (.lst (us.map V.ref ++ [.ref u']))) ri = some (.lst ([(0 : Int), D, E].map V.int)) ∧ (upd (upd H' u' (.tup [.int (sgK kN), .int ((botK A B C D E kN : Nat) : Int)])) l (.lst (us.map V.ref ++ [.ref u']))) kn = some (.lst (factsL S)) ∧
      PrsAt (upd (upd H' u' (.tup [.int (sgK kN), .int ((botK A B C D E kN : Nat) : Int)])) l (.lst (us.map V.ref ++ [.ref u']))) us' (tmL A B C D E (-m1).toNat (i + 1)) := fun u' hu' => by
    have t6 := same_upd (o := .tup [.int (sgK kN), .int ((botK A B C D E kN : Nat) : Int)]) hu'
    refine ⟨_, _, _, us ++ [u'], rfl, ?_, ?_, ?_, ?_, ?_, ?_⟩
    · intro x y e
      rw [upd_ne (ne_of_none e lfree)]
      exact t6 _ _ (sm _ _ e)
    · rw [upd_same, List.map_append]
      rfl
    · rw [upd_ne nlf]
      exact t6 _ _ hfl'
    · rw [upd_ne nlr]
      exact t6 _ _ hri'
    · rw [upd_ne nlk]
      exact t6 _ _ hkn'
    · rw [tmL_succ, ekN]
      exact PrsAt.upd (fun x e => by rw [t6 _ _ hll] at e; cases e) (PrsAt.snoc (x := (sgK kN, ((botK A B C D E kN : Nat) : Int))) (show upd H' u' (.tup [.int (sgK kN), .int ((botK A B C D E kN : Nat) : Int)]) u' = _ from upd_same) (hR.same t6))
  have len : (us.map V.ref).length + 1 ≤ sizeLine := by
    have := hR.len
    unfold tmL at this
    rw [List.length_map, List.length_range] at this
    rw [List.length_map, sizeLine_eq]
    omega
  refine ⟨_, rfl, .inl ⟨rfl, _, SqL.of hll⟩, _, rfl, (kN : Int), rfl, _, rfl, ?_⟩
  rw [sg]
  unfold sgK at fin
  by_cases z : kN % 2 = 1
  · refine iteD1 z ?_
    rw [if_pos z] at fin
    exact ⟨1, rfl, _, rfl, by show 2 ≤ sizeLine; decide, fun u' hu' => ⟨l, _, _, rfl, rfl, same_upd hu' _ _ hll, len, fin u' hu'⟩⟩
  · refine iteD0 z ?_
    rw [if_neg z] at fin
    exact ⟨_, rfl, by show 2 ≤ sizeLine; decide, fun u' hu' => ⟨l, _, _, rfl, rfl, same_upd hu' _ _ hll, len, fin u' hu'⟩⟩
end
end TC
namespace TC
open PySem PySem.Spec PyProof.Rows L2 TCA
section
variable {K : PySem.W.Frag} {x qual : Str} {params : Arguments} {body : List Stmt} {scope : Scope} {kws : List (Str × V)} {f : Addr} {fd : FuncData} {ps : List Str}
/-- a call with keywords of a def without other defaults -/
theorem kbinds0 (F : FunD K x qual params body scope [] kws f fd) (n : Nat) (ks : List Str) (ms : List (Str × V)) (g : {α : Type} → List α → List α → List α → List α) (hk : kws ≠ []) (hms : ∀ q ∈ ms, q ∈ kws)
    (hrel : ∀ {vs mz zs : List V} {us mv ws : List Value}, Vals vs us → Vals mz mv → Vals zs ws → Vals (g vs mz zs) (g us mv ws))
    (h : ∀ (D : Addr) (doc pm : Value) (an : Option Addr) (cdv ct : Value) (us mv ws : List Value), us.length = n → mv.length = ms.length → ws.length = ks.length →
      KwChain D ((ms.map (·.1)).zip mv) (bindArgs (PySem.W.fnOf x qual params body scope .none (.ref D) doc pm an cdv ct) ⟨us, ks.zip ws⟩) (ps.zip (g us mv ws))) :
    ∃ mv : List Value, KBn K fd ps n ks (fun us ws => g us mv ws) (fun vs zs => g vs (ms.map (·.2)) zs) := by
  obtain ⟨oc, od, dV, kV, doc, pm, an, cdv, ct, osl, rfl, lk, hcd, hD, hK⟩ := F.ex
  rcases hD with ⟨_, rfl⟩ | ⟨e, _⟩
  · rcases hK with e | ⟨D, rfl, hq⟩
    · exact absurd e hk
    · obtain ⟨mv, hl, rk, hks⟩ := kwd_vals (ms := ms) fun q hm => hq q (hms q hm)
      refine ⟨mv, ⟨fun s us ws X l1 l2 => ?_, fun r1 r2 => hrel r1 rk r2⟩⟩
      exact BindsTo.of_looks fun M => KwChain.looks X hks (h D doc pm an cdv ct us mv ws l1 hl l2)
  · exact absurd rfl e
end
theorem Vals.rev : ∀ {xs : List V} {us : List Value}, Vals xs us → Vals xs.reverse us.reverse
  | _, _, .nil => .nil
  | _, _, .cons r t => by
    rw [List.reverse_cons, List.reverse_cons]
    exact (Vals.rev t).append (.cons r .nil)
section
variable {K : PySem.W.Frag} {f : Addr} {fd : FuncData}
theorem bE0 (F : FnE K f fd) : ∃ ds, Vals [.int 1, .int 1] ds ∧ L2.Binds K fd psE ds :=
  F.binds0 1 (by intro z; cases z) rfl fun D doc pm an cdv ct us ks h1 h2 => match us, ks, h1, h2 with
    | [_], [_, _], _, _ => ⟨_, _, _, _, _, _, rfl, rfl, ⟨_, _, _, _, _, _, rfl, rfl, rfl⟩⟩
theorem bEbr (F : FnE K f fd) : ∃ mv : List Value, KBn K fd psE 1 ["bottom", "root"] (fun us ws => us ++ ws) (fun vs zs => vs ++ zs) := by
  obtain ⟨mv, h⟩ := kbinds0 F (ps := psE) 1 ["bottom", "root"] [] (fun us _ ws => us ++ ws) (by intro z; cases z) (fun q hq => by cases hq) (fun a _ c => a.append c) fun D doc pm an cdv ct us mv ws h1 h2 h3 => match us, mv, ws, h1, h2, h3 with
    | [_], [], [_, _], _, _, _ => rfl
  exact ⟨mv, h⟩
theorem bErb (F : FnE K f fd) : ∃ mv : List Value, KBn K fd psE 1 ["root", "bottom"] (fun us ws => us ++ ws.reverse) (fun vs zs => vs ++ zs.reverse) := by
  obtain ⟨mv, h⟩ := kbinds0 F (ps := psE) 1 ["root", "bottom"] [] (fun us _ ws => us ++ ws.reverse) (by intro z; cases z) (fun q hq => by cases hq) (fun a _ c => a.append (Vals.rev c)) fun D doc pm an cdv ct us mv ws h1 h2 h3 => match us, mv, ws, h1, h2, h3 with
    | [_], [], [_, _], _, _, _ => rfl
  exact ⟨mv, h⟩
end
theorem val_one (r s : Int) (q : Rat) : TCR.val [(r, q)] s = if s = r then q else 0 := by
  show (if r = s then q else 0) = _
  by_cases h : s = r
  · rw [if_pos h, if_pos h.symm]
  · rw [if_neg h, if_neg fun z => h z.symm]
theorem val_oneL (r t b s : Int) : TCR.val (oneL r t b) s = if s = r then Rat.divInt t b else 0 := by
  unfold oneL
  by_cases h : t = 0
  · rw [if_pos h, h, divInt_zero]
    split <;> rfl
  · rw [if_neg h, val_one]
theorem good_oneL {A : Nat} {r t b : Int} (hb : b ≠ 0) (h1 : t.natAbs < 2 ^ A) (h2 : b.natAbs < 2 ^ A) : Good A (oneL r t b) := by
  unfold oneL
  by_cases h : t = 0
  · rw [if_pos h]
    exact Good.nil
  · rw [if_neg h]
    exact ⟨TCR.canon_one (divInt_ne hb h), fun x hx => by
      rw [List.mem_singleton.mp hx]
      exact TCR.Sz.divInt hb h1 h2⟩
theorem len_oneL (r t b : Int) : (oneL r t b).length ≤ 1 := by
  unfold oneL
  split
  · exact Nat.zero_le _
  · exact Nat.le_refl _
theorem len_ex (t b r : Int) : (exL t b r).length ≤ 1 := len_oneL ..
theorem canon_oneL {r t b : Int} (hb : b ≠ 0) : TCR.Canon (oneL r t b) := by
  unfold oneL
  by_cases h : t = 0
  · rw [if_pos h]
    exact TCR.canon_nil
  · rw [if_neg h]
    exact TCR.canon_one (divInt_ne hb h)
section
variable {P : Program} {w : World} {K : PySem.W.Frag} {mg : Str → Option Value} {base : Heap} {f : Addr} {fd : FuncData} {C fI fQ : Addr}
/-! ### exact -/
def spExact (C : Addr) : Sp := fun vs H Q _ => ∃ (t b r : Int) (A : Nat), vs = [.int t, .int b, .int r] ∧ b ≠ 0 ∧ b.natAbs < 2 ^ A ∧ 0 < A ∧ A ≤ 8000 ∧ RootOk r ∧ ∀ x H', Same H H' → H x = none → NumAt C H' x (exL t b r) → Q (.ref x) H'
theorem scExact : FnScope ["top", "bottom", "root", "outside", "inside", "rest"] ["top", "bottom", "root"] (defScope sExact) := ⟨rfl, rfl, rfl, by decide +kernel, rfl, by decide +kernel, by decide +kernel⟩
theorem ok_exact {fW fSq fLw : Addr} {fdW fdSq fdLw : FuncData} {tH : Tok} (F : FnE K f fd) (GW : FnOk P w K mg base CX0 1 fW fdW ["thing"] spWhole) (bW : L2.Binds K fdW ["thing"] []) (kW : PySem.W.keepIn K (.ref fW) = true) (gW : mg "is_whole" = some (.ref fW))
    (GSq : FnOk P w K mg base CX0 1 fSq fdSq ["number"] spSquares) (bSq : L2.Binds K fdSq ["number"] []) (kSq : PySem.W.keepIn K (.ref fSq) = true) (gSq : mg "squares_out" = some (.ref fSq))
    (GLw : FnOk P w K mg base CX0 3 fLw fdLw ["tops", "bottom"] (spLowered C)) (bLw : L2.Binds K fdLw ["tops", "bottom"] []) (kLw : PySem.W.keepIn K (.ref fLw) = true) (gLw : mg "lowered" = some (.ref fLw))
    (gH : mg "HIGHEST_ROOT" = some (.int 1000000 tH)) : FnOk P w K mg base CX0 4 f fd psE (spExact C) := by
  refine F.ok scExact (fun vs H Q E h => ?_) (fun cdv A outer s H vs Q E hr h => ?_)
  · obtain ⟨t, b, r, _, rfl, _⟩ := h
    rfl
  · obtain ⟨t, b, r, A8, rfl, hb, hz, A0, A88, ⟨R0, R1, a1, a2, a3⟩, q⟩ := h
    have hr1 := hr.mono (j := 1) (by decide)
    refine ⟨_, PSs.nox (pss_cons (ps_if (pt_not (PW.pt (pw_and (pt_val (pe_call GW hr1 (by rfl) gW kW bW .nil pass0 (pa_cons (pv 0) pa_nil))) (pw_and (pt_val (pe_call GW hr1 (by rfl) gW kW bW .nil pass0 (pa_cons (pv 1) pa_nil))) (pw_and (pt_val (pe_call GW hr1 (by rfl) gW kW bW .nil pass0 (pa_cons (pv 2) pa_nil)))
        (pw_and1 (pt_chain op_le op_le pe_int (pv 2) (pe_glob (v := .int 1000000) (by rfl) gH ⟨_, rfl⟩)))))))) pss_never pss_nil)
      (pss_cons (ps_asg (pe_call GSq hr1 (by rfl) gSq kSq bSq .nil pass0 (pa_cons (pv 2) pa_nil)) (pg_tup rfl (pgs_cons (pg_name (i := 3) scExact.nd rfl (.inl rfl)) (pgs_cons (pg_name (i := 4) scExact.nd rfl (.inl rfl)) (pgs_cons (pg_name (i := 5) scExact.nd rfl (.inl rfl)) pgs_nil)))))
      (pss_cons (ps_if (pt_cmpR op_ne (pv 5) pe_int (nomark _)) pss_never pss_nil)
      (pss_cons (ps_if (pt_cmpR op_eq (pv 1) pe_int (nomark _)) pss_never pss_nil)
      (pss_one (ps_ret (pe_call GLw hr (by rfl) gLw kLw bLw .nil pass0 (pa_cons (pe_disp (pps_cons (pv 4) (pe_op op_mul (pv 0) (pv 3)) pps_nil) rfl rfl (by intro z; cases z) (by decide)) (pa_cons (pv 1) pa_nil))))))))), ?_⟩
    refine ⟨_, rfl, t, rfl, true, rfl, iteT ?_⟩
    refine ⟨_, rfl, b, rfl, true, rfl, iteT ?_⟩
    refine ⟨_, rfl, r, rfl, true, rfl, iteT ?_⟩
    refine ⟨_, rfl, 0, r, rfl, rfl, _, rfl, iteD1 R0 ?_⟩
    refine ⟨r, 1000000, rfl, rfl, _, rfl, iteNS R1 ?_⟩
    refine ⟨_, rfl, r, rfl, R0, R1, fun p H1 sm1 hp e1 => ?_⟩
    refine ⟨p, _, rfl, SqT.of e1, rfl, _, _, rfl, _, _, rfl, _, _, rfl, rfl, ?_⟩
    refine ⟨_, rfl, rfl, _, rfl, iteNS (congrArg V.int a1) ?_⟩
    refine ⟨_, rfl, rfl, _, rfl, iteD0 (ine hb) ?_⟩
    intro d hd
    refine ⟨_, rfl, _, rfl, _, rfl, t, _, rfl, rfl, .inr ⟨by omega, by omega⟩, upd_same, [(Sum.inl _, _)], rfl, by show 1 ≤ 15; decide, ?_⟩
    rw [upd_upd]
    have sm2 := same_upd (o := .dK (mergeK [] [((Sum.inl (TCM.sqOut r).2.1 : Key), V.int (t * (TCM.sqOut r).1))])) hd
    have hI : IntD (upd H1 d (.dK (mergeK [] [((Sum.inl (TCM.sqOut r).2.1 : Key), V.int (t * (TCM.sqOut r).1))]))) d [(TCM.sqOut r).2.1] (fun s => if s = (TCM.sqOut r).2.1 then t * (TCM.sqOut r).1 else 0) := by
      refine ⟨_, upd_same, rfl, fun s hs => ?_, by simp, fun s hs => if_neg fun z => hs (List.mem_singleton.mpr z)⟩
      rw [List.mem_singleton.mp hs]
      show valV [((Sum.inl (TCM.sqOut r).2.1 : Key), V.int (t * (TCM.sqOut r).1))] (Sum.inl (TCM.sqOut r).2.1) = some (V.int (if (TCM.sqOut r).2.1 = (TCM.sqOut r).2.1 then t * (TCM.sqOut r).1 else 0))
      rw [if_pos rfl]
      exact valV_pos rfl
    refine ⟨_, rfl, d, _, _, b, A8, rfl, hI, hb, hz, A0, A88, by show 1 ≤ 900; decide, fun x N H' sm3 hx hN cN vN lN => ?_⟩
    have eN : N = exL t b r := TCR.canon_eq cN (canon_oneL hb) fun s => by
      rw [vN]
      unfold exL
      rw [val_oneL]
      split
      · rfl
      · exact divInt_zero b
    rw [eN] at hN
    exact q x H' ((sm1.trans sm2).trans sm3) ((sm1.trans sm2).free hx) hN
end
end TC
namespace TCX
set_option exponentiation.threshold 20000
theorem powP_le {e g : Nat → Nat} : ∀ {l : List Nat}, (∀ p ∈ l, IsP p) → (∀ p ∈ l, e p ≤ g p) → powP e l ≤ powP g l
  | [], _, _ => Nat.le_refl _
  | p :: l, hp, h => by
    have p1 := (hp p (by simp)).1
    exact Nat.mul_le_mul (Nat.pow_le_pow_right (by omega) (h p (by simp))) (powP_le (fun r hr => hp r (List.mem_cons_of_mem _ hr)) fun r hr => h r (List.mem_cons_of_mem _ hr))
theorem topE_le {above below : List Nat} (ha : ∀ n ∈ above, n < 123) : topE above below ≤ prodF above := by
  rw [prodF_leg ha]
  refine powP_le pr30_p fun p _ => ?_
  have e : expE above below p = (sumL above p : Int) - (sumL below p : Int) := rfl
  omega
theorem botE_le {above below : List Nat} (hb : ∀ n ∈ below, n < 123) : botE above below ≤ prodF below := by
  rw [prodF_leg hb]
  refine powP_le pr30_p fun p _ => ?_
  have e : expE above below p = (sumL above p : Int) - (sumL below p : Int) := rfl
  omega
theorem prodF_lt : ∀ {l : List Nat}, (∀ n ∈ l, n < 62) → prodF l < 2 ^ (280 * l.length + 1)
  | [], _ => by decide
  | n :: l, h => by
    have h1 := prodF_lt (l := l) fun m hm => h m (List.mem_cons_of_mem _ hm)
    show factN n * prodF l < 2 ^ (280 * (l.length + 1) + 1)
    rw [show 280 * (l.length + 1) + 1 = 280 + (280 * l.length + 1) by omega, Nat.pow_add]
    exact Nat.mul_lt_mul'' (fact_lt n (h n (by simp))) h1
theorem rootE_lt (above below : List Nat) : rootE above below < 2 ^ 200 := by
  have h1 : rootE above below ≤ powP (fun _ => 1) pr30 := by
    unfold rootE
    rw [pick_pow]
    exact powP_le pr30_p fun p _ => by split <;> omega
  exact Nat.lt_of_le_of_lt h1 (by decide +kernel)
theorem tmK_le (A B C : Nat) (D E : Int) (k : Nat) : (tmK A B C D E k).natAbs ≤ comK A B C D E := by
  unfold tmK
  split
  · rw [Int.natAbs_mul, Int.natAbs_natCast]
    have : (sgK k).natAbs = 1 := by
      unfold sgK
      split <;> rfl
    rw [this, Nat.one_mul]
    exact Nat.div_le_self _ _
  · exact Nat.zero_le _
theorem sumK_le {f : Nat → Int} {M : Nat} (h : ∀ i, (f i).natAbs ≤ M) : ∀ n, (sumK f n).natAbs ≤ n * M
  | 0 => Nat.zero_le _
  | n + 1 => by
    have h1 := sumK_le h n
    have h2 := h n
    rw [sumK_succ, Nat.add_mul, Nat.one_mul]
    omega
theorem comK_lt {A B C : Nat} {D E : Int} (h1 : A < 62) (h2 : B + D < 62) (h3 : C + E < 62) : comK A B C D E < 2 ^ 840 := by
  unfold comK
  have a1 := fact_lt A h1
  have a2 := fact_lt (B + D).toNat (by omega)
  have a3 := fact_lt (C + E).toNat (by omega)
  have z := Nat.mul_lt_mul'' (Nat.mul_lt_mul'' a1 a2) a3
  rw [← Nat.pow_add, ← Nat.pow_add] at z
  exact z
end TCX
namespace TC
set_option exponentiation.threshold 20000
open PySem PySem.Spec PyProof.Rows L2 TCX
def oneQ (r : Int) (q : Rat) : List Part := if q = 0 then [] else [(r, q)]
theorem val_oneQ (r : Int) (q : Rat) (s : Int) : TCR.val (oneQ r q) s = if s = r then q else 0 := by
  unfold oneQ
  by_cases h : q = 0
  · rw [if_pos h, h]
    split <;> rfl
  · rw [if_neg h, val_one]
theorem canon_oneQ (r : Int) (q : Rat) : TCR.Canon (oneQ r q) := by
  unfold oneQ
  split
  · exact TCR.canon_nil
  · exact TCR.canon_one (by assumption)
def jA (a b c : Int) : Nat := ((a + b - c) / 2).toNat
def jB (a u : Int) : Nat := ((a - u) / 2).toNat
def jC (b v : Int) : Nat := ((b + v) / 2).toNat
def jD (b u c : Int) : Int := (c - b + u) / 2
def jE (a v c : Int) : Int := (c - a - v) / 2
def jAb (a u b v c w : Int) : List Nat := [(c + 1).toNat, ((a + u) / 2).toNat, ((a - u) / 2).toNat, ((b + v) / 2).toNat, ((b - v) / 2).toNat, ((c + w) / 2).toNat, ((c - w) / 2).toNat]
def jBe (a b c : Int) : List Nat := [c.toNat, ((a + b + c) / 2 + 1).toNat, ((a + b - c) / 2).toNat, ((a - b + c) / 2).toNat, ((b - a + c) / 2).toNat]
def jT (a u b v c : Int) : Nat → Int := tmK (jA a b c) (jB a u) (jC b v) (jD b u c) (jE a v c)
def jCom (a u b v c : Int) : Nat := comK (jA a b c) (jB a u) (jC b v) (jD b u c) (jE a v c)
def jSum (a u b v c : Int) : Int := sumK (jT a u b v c) (jA a b c + 1)
def JoinP (a b c u v w : Int) : Prop := canB a b c = true ∧ u + v = w
instance (a b c u v w : Int) : Decidable (JoinP a b c u v w) := inferInstanceAs (Decidable (_ ∧ _))
def joinL (a u b v c w : Int) : List Part := if JoinP a b c u v w then oneQ ((rootE (jAb a u b v c w) (jBe a b c) : Nat) : Int) (Rat.divInt (jSum a u b v c) 1 * Rat.divInt ((topE (jAb a u b v c w) (jBe a b c) : Nat) : Int) ((botE (jAb a u b v c w) (jBe a b c) : Nat) : Int)) else []
theorem canon_joinL (a u b v c w : Int) : TCR.Canon (joinL a u b v c w) := by
  unfold joinL
  split
  · exact canon_oneQ _ _
  · exact TCR.canon_nil
section
variable {a u b v c w : Int}
theorem tmp_of (h1 : PairP a u) (h2 : PairP b v) (h3 : PairP c w) (j : JoinP a b c u v w) : TmP a u b v c (jA a b c) (jB a u) (jC b v) (jD b u c) (jE a v c) ((a + b + c) / 2).toNat := by
  obtain ⟨a0, a1, a2, a3, a4⟩ := h1
  obtain ⟨b0, b1, b2, b3, b4⟩ := h2
  obtain ⟨c0, c1, c2, c3, c4⟩ := h3
  obtain ⟨k1, k2, k3, k4⟩ := canB_iff.mp j.1
  have k5 := j.2
  unfold jA jB jC jD jE
  refine ⟨by omega, by omega, by omega, rfl, rfl, by omega, by omega, by omega, by omega, by omega, by omega, by omega⟩
theorem jAb_lt (h1 : PairP a u) (h2 : PairP b v) (h3 : PairP c w) : ∀ n ∈ jAb a u b v c w, n < 62 := by
  obtain ⟨a0, a1, a2, a3, a4⟩ := h1
  obtain ⟨b0, b1, b2, b3, b4⟩ := h2
  obtain ⟨c0, c1, c2, c3, c4⟩ := h3
  intro n hn
  unfold jAb at hn
  simp only [List.mem_cons, List.not_mem_nil, or_false] at hn
  omega
theorem jBe_lt (h1 : PairP a u) (h2 : PairP b v) (h3 : PairP c w) : ∀ n ∈ jBe a b c, n < 62 := by
  obtain ⟨a0, a1, a2, a3, a4⟩ := h1
  obtain ⟨b0, b1, b2, b3, b4⟩ := h2
  obtain ⟨c0, c1, c2, c3, c4⟩ := h3
  intro n hn
  unfold jBe at hn
  simp only [List.mem_cons, List.not_mem_nil, or_false] at hn
  omega
theorem jSum_lt (h1 : PairP a u) (h2 : PairP b v) (h3 : PairP c w) (j : JoinP a b c u v w) : (jSum a u b v c).natAbs < 2 ^ 900 := by
  have T := tmp_of h1 h2 h3 j
  have s1 := T.s1
  have cl := comK_lt (A := jA a b c) (B := jB a u) (C := jC b v) (D := jD b u c) (E := jE a v c) (by have := T.lA; omega) (by have := T.lD; omega) (by have := T.lE; omega)
  have z := sumK_le (f := jT a u b v c) (tmK_le _ _ _ _ _) (jA a b c + 1)
  refine Nat.lt_of_le_of_lt z ?_
  have y : jA a b c + 1 < 2 ^ 60 := Nat.lt_of_le_of_lt (show _ ≤ 62 by have := T.lA; omega) (by decide)
  have x := Nat.mul_lt_mul'' y cl
  rw [← Nat.pow_add] at x
  exact x
end
theorem root_ok1 : RootOk 1 := by
  unfold RootOk
  decide +kernel
theorem exL_one (t : Int) : exL t 1 1 = oneL 1 t 1 := by
  unfold exL
  rw [show TCM.sqOut 1 = (1, 1, 1) by decide +kernel, Int.mul_one]
theorem fit_abs {r t b : Nat} {A R : Nat} (r0 : 0 < r) (t0 : 0 < t) (b0 : 0 < b) (cp : Nat.Coprime t b) (tl : t < 2 ^ A) (rl : r < 2 ^ R) : Fit b A R [((r : Int), Rat.divInt (t : Int) (b : Int))] := by
  obtain ⟨c1, c2⟩ := rat_cop b0 cp
  refine ⟨TCR.canon_one (divInt_ne (by omega) (by omega)), fun x hx => ?_, fun x hx => ?_, fun x hx => ?_⟩
  · rw [List.mem_singleton.mp hx]
    show (Rat.divInt (t : Int) (b : Int)).den ∣ b
    rw [c2]
    exact Nat.dvd_refl _
  · rw [List.mem_singleton.mp hx]
    show (Rat.divInt (t : Int) (b : Int)).num.natAbs < 2 ^ A
    rw [c1, Int.natAbs_natCast]
    exact tl
  · rw [List.mem_singleton.mp hx]
    show 0 < (r : Int) ∧ (r : Int).natAbs < 2 ^ R
    exact ⟨by omega, by rw [Int.natAbs_natCast]; exact rl⟩
theorem fit_rootL {above below : List Nat} (la : ∀ n ∈ above, n < 62) (hl : above.length ≤ 7) : Fit (botE above below) 2000 200 (rootL above below) := by
  refine fit_abs (rootE_sqF above below).pos (topE_pos above below) (botE_pos above below) (topE_cop above below) ?_ (rootE_lt above below)
  exact Nat.lt_of_le_of_lt (topE_le fun n hn => by have := la n hn; omega) (Nat.lt_of_lt_of_le (prodF_lt la) (Nat.pow_le_pow_right (by decide) (by omega)))
theorem botE_lt {a u b v c w : Int} (h1 : PairP a u) (h2 : PairP b v) (h3 : PairP c w) : botE (jAb a u b v c w) (jBe a b c) < 2 ^ 1500 := by
  have lb := jBe_lt h1 h2 h3
  exact Nat.lt_of_le_of_lt (botE_le fun n hn => by have := lb n hn; omega) (Nat.lt_of_lt_of_le (prodF_lt lb) (Nat.pow_le_pow_right (by decide) (by rw [show (jBe a b c).length = 5 from rfl]; decide)))
theorem fit_one {t : Int} {A R : Nat} (ht : t.natAbs < 2 ^ A) (R0 : 1 < 2 ^ R) : Fit 1 A R (exL t 1 1) := by
  rw [exL_one]
  refine ⟨canon_oneL (by decide), ?_, ?_, ?_⟩ <;> unfold oneL <;> intro x hx <;> split at hx
  · cases hx
  · rw [List.mem_singleton.mp hx]
    exact den_divInt (c := 1) (by decide)
  · cases hx
  · rw [List.mem_singleton.mp hx]
    show (Rat.divInt t 1).num.natAbs < _
    have := (TCM.low_abs t 1 (by decide)).1
    rw [TCR.low_rat t 1 (by decide)] at this
    exact Nat.lt_of_le_of_lt this ht
  · cases hx
  · rw [List.mem_singleton.mp hx]
    exact ⟨by show (0 : Int) < 1; decide, R0⟩
/-- a root times a whole number -/
theorem times_one {r t : Int} {q : Rat} (hr : 0 < r) (hq : q ≠ 0) {N : List Part} (cN : TCR.Canon N) (hv : ∀ u, TCR.val N u = prodG ([((r, q) : Part)].map (·.1)) ((exL t 1 1).map (·.1)) (TCR.val [(r, q)]) (TCR.val (exL t 1 1)) u) : N = oneQ r (Rat.divInt t 1 * q) := by
  refine TCR.canon_eq cN (canon_oneQ _ _) fun u => ?_
  rw [hv u, val_oneQ, exL_one]
  unfold oneL
  by_cases ht : t = 0
  · rw [if_pos ht, ht, divInt_zero, prodG_zero _ _ _ (TCR.val []) u fun s => rfl]
    split <;> grind
  · rw [if_neg ht]
    have e : TCR.val [((1, Rat.divInt t 1) : Part)] = fun s => if s = 1 then Rat.divInt t 1 else 0 := funext fun s => val_one _ _ _
    rw [e]
    show prodG [r] [1] (TCR.val [(r, q)]) _ u = _
    rw [prodG_one (Rat.divInt t 1) ⟨by simp, fun s hs => ?_⟩ (fun s hs => by rw [List.mem_singleton.mp hs]; exact hr) u, val_one]
    · split <;> grind
    · rw [val_one] at hs
      exact List.mem_singleton.mpr (Classical.byContradiction fun z => hs (if_neg z))
end TC
namespace TC
set_option exponentiation.threshold 20000
open PySem PySem.Spec PyProof.Rows L2 TCX
theorem com_eq {a u b v c w : Int} (h1 : PairP a u) (h2 : PairP b v) (h3 : PairP c w) (j : JoinP a b c u v w) : jCom a u b v c = factN ((a + b - c) / 2).toNat * factN ((a - b + c) / 2).toNat * factN ((b - a + c) / 2).toNat := by
  obtain ⟨a0, a1, a2, a3, a4⟩ := h1
  obtain ⟨b0, b1, b2, b3, b4⟩ := h2
  obtain ⟨c0, c1, c2, c3, c4⟩ := h3
  obtain ⟨k1, k2, k3, k4⟩ := canB_iff.mp j.1
  have k5 := j.2
  unfold jCom comK jA jB jC jD jE
  have e1 : ((((a - u) / 2).toNat : Int) + (c - b + u) / 2).toNat = ((a - b + c) / 2).toNat := by omega
  have e2 : ((((b + v) / 2).toNat : Int) + (c - a - v) / 2).toNat = ((b - a + c) / 2).toNat := by omega
  rw [e1, e2]
/-- the terms, summed -/
theorem tm_sum {A B C : Nat} {D E : Int} {lo n : Nat} (ok : ∀ i, i < n → okK A B C D E (lo + i) = true) : ((tmL A B C D E lo n).map fun x => x.1 * (((comK A B C D E : Nat) : Int) / x.2)).sum = sumK (fun i => tmK A B C D E (lo + i)) n := by
  induction n with
  | zero => rfl
  | succ n ih =>
    rw [tmL_succ, List.map_append, List.sum_append, ih fun i hi => ok i (by omega), sumK_succ]
    show _ + (sgK (lo + n) * (((comK A B C D E : Nat) : Int) / ((botK A B C D E (lo + n) : Nat) : Int)) + 0) = _
    unfold tmK
    rw [if_pos (ok n (by omega)), ← Int.natCast_ediv]
    omega
section
variable {P : Program} {w : World} {K : PySem.W.Frag} {mg : Str → Option Value} {base : Heap} {f : Addr} {fd : FuncData} {C fI fQ : Addr}
/-! ### joined_number -/
def spJoinedN (C : Addr) : Sp := fun vs H Q _ => ∃ (p1 p2 p3 : Addr) (a u b v c w : Int), vs = [.ref p1, .ref p2, .ref p3] ∧ H p1 = some (pairO (a, u)) ∧ H p2 = some (pairO (b, v)) ∧ H p3 = some (pairO (c, w)) ∧ PairP a u ∧ PairP b v ∧ PairP c w ∧
  ∀ x H', Same H H' → H x = none → NumAt C H' x (joinL a u b v c w) → Q (.ref x) H'
abbrev nJoinedN : List Str := ["one", "other", "to", "a", "u", "b", "v", "c", "w", "reaches", "heights", "known", "common", "whole", "top", "bottom", "root"]
theorem scJoinedN : FnScope nJoinedN ["one", "other", "to"] (defScope sJoinedN) := ⟨rfl, rfl, rfl, by decide +kernel, rfl, by decide +kernel, by decide +kernel⟩
set_option maxHeartbeats 0 in
theorem ok_joinedN {fE fC fA fT fR fM : Addr} {fdE fdC fdA fdT fdR fdM : FuncData} (F : FnP K "joined_number" sJoinedN f fd) (FE : FnE K fE fdE) (GE : FnOk P w K mg base CX0 4 fE fdE psE (spExact C)) (gE : mg "exact" = some (.ref fE))
    (GC : FnOk P w K mg base CX0 2 fC fdC ["one", "other", "third"] spCanJoin) (bC : L2.Binds K fdC ["one", "other", "third"] []) (kC : PySem.W.keepIn K (.ref fC) = true) (gC : mg "can_join" = some (.ref fC))
    (GA : FnOk P w K mg base CX0 1 fA fdA ["high"] spFacts) (bA : L2.Binds K fdA ["high"] []) (kA : PySem.W.keepIn K (.ref fA) = true) (gA : mg "factorials" = some (.ref fA))
    (GT : FnOk P w K mg base CX0 2 fT fdT ["one", "other", "c"] spTerms) (bT : L2.Binds K fdT ["one", "other", "c"] []) (kT : PySem.W.keepIn K (.ref fT) = true) (gT : mg "terms_of_joined" = some (.ref fT))
    (GR : FnOk P w K mg base CX0 3 fR fdR ["above", "below"] (spRootF C)) (bR : L2.Binds K fdR ["above", "below"] []) (kR : PySem.W.keepIn K (.ref fR) = true) (gR : mg "root_of_factorials" = some (.ref fR))
    (GM : FnOk P w K mg base CX0 4 fM fdM ["one", "other"] (spTimes C)) (bM : L2.Binds K fdM ["one", "other"] []) (kM : PySem.W.keepIn K (.ref fM) = true) (gM : mg "times" = some (.ref fM)) (gmax : mg "max" = none) (gsum : mg "sum" = none) :
    FnOk P w K mg base CX0 5 f fd ["one", "other", "to"] (spJoinedN C) := by
  obtain ⟨dsE, vE, bE⟩ := bE0 FE
  refine F.ok scJoinedN (fun vs H Q E h => ?_) (fun cdv Ar outer s H vs Q E' hr h => ?_)
  · obtain ⟨_, _, _, _, _, _, _, _, _, rfl, _⟩ := h
    rfl
  obtain ⟨p1, p2, p3, a, u, b, v, c, w, rfl, hp1, hp2, hp3, P1, P2, P3, q⟩ := h
  have hr1 := hr.mono (j := 1) (by decide)
  have hr2 := hr.mono (j := 2) (by decide)
  have hr3 := hr.mono (j := 3) (by decide)
  refine ⟨_, PSs.nox (C8.pss_cut (ps_asg (pe_tup (pa_cons (pv 0) (pa_cons (pv 1) (pa_cons (pv 2) pa_nil)))) (pg_tup rfl (pgs_cons (pg_tup rfl (pgs_cons (pg_name (i := 3) scJoinedN.nd rfl (.inl rfl)) (pgs_cons (pg_name (i := 4) scJoinedN.nd rfl (.inl rfl)) pgs_nil))) (pgs_cons (pg_tup rfl (pgs_cons (pg_name (i := 5) scJoinedN.nd rfl (.inl rfl)) (pgs_cons (pg_name (i := 6) scJoinedN.nd rfl (.inl rfl)) pgs_nil))) (pgs_cons (pg_tup rfl (pgs_cons (pg_name (i := 7) scJoinedN.nd rfl (.inl rfl)) (pgs_cons (pg_name (i := 8) scJoinedN.nd rfl (.inl rfl)) pgs_nil))) pgs_nil)))))
      (C8.pss_cut (ps_if (PW.pt (pw_or (pt_not (pt_val (pe_call GC hr2 (by rfl) gC kC bC .nil pass0 (pa_cons (pv 3) (pa_cons (pv 5) (pa_cons (pv 7) pa_nil)))))) (pw_or1 (pt_cmpR op_ne (pe_op op_add (pv 4) (pv 6)) (pv 8) (nomark _))))) (pss_one (ps_ret (pe_call GE hr (by rfl) gE FE.kp bE vE pass0 (pa_cons pe_int pa_nil)))) pss_nil)
      (C8.pss_cut (ps_set (i := 9) scJoinedN.nd rfl (.inl rfl) (pe_lst (pa_cons (pe_op op_fdiv (pe_op op_sub (pe_op op_add (pv 3) (pv 5)) (pv 7)) pe_int) (pa_cons (pe_op op_fdiv (pe_op op_add (pe_op op_sub (pv 3) (pv 5)) (pv 7)) pe_int) (pa_cons (pe_op op_fdiv (pe_op op_add (pe_op op_sub (pv 5) (pv 3)) (pv 7)) pe_int) pa_nil)))))
      (C8.pss_cut (ps_set (i := 10) scJoinedN.nd rfl (.inl rfl) (pe_lst (pa_cons (pe_op op_fdiv (pe_op op_add (pv 3) (pv 4)) pe_int) (pa_cons (pe_op op_fdiv (pe_op op_sub (pv 3) (pv 4)) pe_int) (pa_cons (pe_op op_fdiv (pe_op op_add (pv 5) (pv 6)) pe_int) (pa_cons (pe_op op_fdiv (pe_op op_sub (pv 5) (pv 6)) pe_int) (pa_cons (pe_op op_fdiv (pe_op op_add (pv 7) (pv 8)) pe_int) (pa_cons (pe_op op_fdiv (pe_op op_sub (pv 7) (pv 8)) pe_int) pa_nil))))))))
      (C8.pss_cut (ps_set (i := 11) scJoinedN.nd rfl (.inl rfl) (pe_call GA hr1 (by rfl) gA kA bA .nil pass0 (pa_cons (pe_callB (cr_max rfl) (by rfl) gmax (by decide +kernel) (pa_cons (pv 9) pa_nil)) pa_nil)))
      (C8.pss_cut (ps_set (i := 12) scJoinedN.nd rfl (.inr rfl) (pe_op op_mulW (pe_op op_mulW (pe_ix ix_list (pv 11) (pe_ix ix_list (pv 9) pe_int (fun _ _ => rfl)) (fun _ _ => rfl)) (pe_ix ix_list (pv 11) (pe_ix ix_list (pv 9) pe_int (fun _ _ => rfl)) (fun _ _ => rfl))) (pe_ix ix_list (pv 11) (pe_ix ix_list (pv 9) pe_int (fun _ _ => rfl)) (fun _ _ => rfl))))
      (C8.pss_cut (ps_set (i := 13) scJoinedN.nd rfl (.inl rfl) (pe_callB (cr_sum rfl) (by rfl) gsum (by decide +kernel) (pa_cons (pe_lc (own := [("top", 14), ("bottom", 15)]) (g := gTup K 2 (gCons (gName 14) (gCons (gName 15) gNil))) (tt := tYes) (te := tOp (rI CMul fun i j => .int (i * j)) (tVar 14) (tOp (rI CDivW fun i j => .int (i / j)) (tVar 12) (tVar 15))) (by rfl) scJoinedN.nd (pi_list (pe_call GT hr2 (by rfl) gT kT bT .nil pass0 (pa_cons (pv 0) (pa_cons (pv 1) (pa_cons (pv 7) pa_nil)))))
          (blkOk_by (N := nJoinedN) (sc := defScope sJoinedN) (by decide +kernel)) (fun _ _ _ _ _ => pg_tup rfl (pgs_cons (pg_name (i := 14) scJoinedN.nd rfl (.inl rfl)) (pgs_cons (pg_name (i := 15) scJoinedN.nd rfl (.inl rfl)) pgs_nil))) (fun _ _ _ _ _ => pts_nil) (fun _ _ _ _ _ => (pe_op op_mul (pv 14) (pe_op op_fdivW (pv 12) (pv 15))))) pa_nil)))
      (pss_cons (ps_set (i := 16) scJoinedN.nd rfl (.inl rfl) (pe_call GR hr3 (by rfl) gR kR bR .nil pass0 (pa_cons (pe_lst (pa_cons (pe_op op_add (pv 7) pe_int) (StX.pa_star (pv 10) pa_nil))) (pa_cons (pe_lst (pa_cons (pv 7) (pa_cons (pe_op op_add (pe_op op_fdiv (pe_op op_add (pe_op op_add (pv 3) (pv 5)) (pv 7)) pe_int) pe_int) (StX.pa_star (pv 9) pa_nil)))) pa_nil))))
      (pss_one (ps_ret (pe_call GM hr (by rfl) gM kM bM .nil pass0 (pa_cons (pv 16) (pa_cons (pe_call GE hr (by rfl) gE FE.kp bE vE pass0 (pa_cons (pv 13) pa_nil)) pa_nil))))))))))))), ?_⟩
  have d2 : ∀ z : Int, CDiv z 2 := fun _ => ⟨by decide, by decide⟩
  refine ⟨fun σ H' => σ = [some (.ref p1), some (.ref p2), some (.ref p3), some (.int a), some (.int u), some (.int b), some (.int v), some (.int c), some (.int w), none, none, none, none, none, none, none, none] ∧ Same H H', ?_, fun σ H1 hM => ?_⟩
  · refine ⟨_, rfl, _, rfl, _, rfl, by show 3 ≤ sizeLine; decide, fun l hl => ?_⟩
    have s2 := same_upd (o := .tup [.ref p1, .ref p2, .ref p3]) hl
    exact ⟨l, _, rfl, SqT.of upd_same, rfl, _, _, rfl, p1, _, rfl, SqT.of (s2 _ _ hp1), rfl, _, _, rfl, _, _, rfl, rfl, _, _, rfl, p2, _, rfl, SqT.of (s2 _ _ hp2), rfl, _, _, rfl, _, _, rfl, rfl, _, _, rfl, p3, _, rfl, SqT.of (s2 _ _ hp3), rfl, _, _, rfl, _, _, rfl, rfl, rfl, rfl, s2⟩
  obtain ⟨rfl, t1⟩ := hM
  -- where it is 0
  refine ⟨fun σ H' => σ = [some (.ref p1), some (.ref p2), some (.ref p3), some (.int a), some (.int u), some (.int b), some (.int v), some (.int c), some (.int w), none, none, none, none, none, none, none, none] ∧ H' = H1 ∧ JoinP a b c u v w, ?_, fun σ H1' hM => ?_⟩
  · have nought : ¬ JoinP a b c u v w → tRet (tCall (spExact C) [.int 1, .int 1] E0 (tCons (tC (.int 0)) tNil)) { nx := fun σ H' => σ = [some (.ref p1), some (.ref p2), some (.ref p3), some (.int a), some (.int u), some (.int b), some (.int v), some (.int c), some (.int w), none, none, none, none, none, none, none, none] ∧ H' = H1 ∧ JoinP a b c u v w, rt := Q } [some (.ref p1), some (.ref p2), some (.ref p3), some (.int a), some (.int u), some (.int b), some (.int v), some (.int c), some (.int w), none, none, none, none, none, none, none, none] H1 := fun nj => by
      refine ⟨0, 1, 1, 40, rfl, by decide, by decide, by decide, by decide, root_ok1, fun x H2 s2 hx hN => ?_⟩
      rw [exL_one, show oneL 1 0 1 = [] from if_pos rfl] at hN
      refine q x H2 (t1.trans s2) (t1.free hx) ?_
      unfold joinL
      rw [if_neg nj]
      exact hN
    refine ⟨_, rfl, _, rfl, _, rfl, a, b, c, rfl, _, rfl, ?_⟩
    cases ec : canB a b c with
    | false => exact iteT (iteT (nought fun z => by rw [z.1] at ec; cases ec))
    | true =>
      refine iteF ⟨_, rfl, _, rfl, u, v, rfl, rfl, _, rfl, rfl, _, rfl, ?_⟩
      by_cases e2 : u + v = w
      · exact iteNS (congrArg V.int e2) ⟨rfl, rfl, ec, e2⟩
      · exact iteNT (ine e2) (nought fun z => e2 z.2)
  obtain ⟨rfl, eH1, J⟩ := hM
  replace eH1 := eH1.symm
  subst eH1
  have T := tmp_of P1 P2 P3 J
  have bnd : 0 ≤ a ∧ a ≤ 40 ∧ 0 ≤ b ∧ b ≤ 40 ∧ 0 ≤ c ∧ c ≤ 40 ∧ -a ≤ u ∧ u ≤ a ∧ -b ≤ v ∧ v ≤ b ∧ -c ≤ w ∧ w ≤ c := ⟨P1.t0, P1.t1, P2.t0, P2.t1, P3.t0, P3.t1, P1.lo, P1.hi, P2.lo, P2.hi, P3.lo, P3.hi⟩
  obtain ⟨b1, b2, b3, b4, b5, b6, b7, b8, b9, b10, b11, b12⟩ := bnd
  obtain ⟨k1, k2, k3, k4⟩ := canB_iff.mp J.1
  -- reaches
  refine ⟨fun σ H' => ∃ r : Addr, σ = [some (.ref p1), some (.ref p2), some (.ref p3), some (.int a), some (.int u), some (.int b), some (.int v), some (.int c), some (.int w), some (.ref r), none, none, none, none, none, none, none] ∧ Same H H' ∧ H' r = some (.lst ([(a + b - c) / 2, (a - b + c) / 2, (b - a + c) / 2].map V.int)), ?_, fun σ H2 hM => ?_⟩
  · refine ⟨_, rfl, _, rfl, a, b, rfl, rfl, _, rfl, a + b, c, rfl, rfl, a + b - c, 2, rfl, rfl, d2 _, _, rfl, _, rfl, a, b, rfl, rfl, _, rfl, a - b, c, rfl, rfl, a - b + c, 2, rfl, rfl, d2 _, _, rfl, _, rfl, b, a, rfl, rfl, _, rfl, b - a, c, rfl, rfl, b - a + c, 2, rfl, rfl, d2 _, by show 3 ≤ sizeLine; decide, fun r hr => ?_⟩
    exact ⟨r, rfl, t1.trans (same_upd hr), upd_same⟩
  obtain ⟨r, rfl, t2, hr2'⟩ := hM
  -- heights
  refine ⟨fun σ H' => ∃ h : Addr, σ = [some (.ref p1), some (.ref p2), some (.ref p3), some (.int a), some (.int u), some (.int b), some (.int v), some (.int c), some (.int w), some (.ref r), some (.ref h), none, none, none, none, none, none] ∧ Same H2 H' ∧ H' h = some (.lst ([(a + u) / 2, (a - u) / 2, (b + v) / 2, (b - v) / 2, (c + w) / 2, (c - w) / 2].map V.int)), ?_, fun σ H3 hM => ?_⟩
  · refine ⟨_, rfl, _, rfl, a, u, rfl, rfl, a + u, 2, rfl, rfl, d2 _, _, rfl, _, rfl, a, u, rfl, rfl, a - u, 2, rfl, rfl, d2 _, _, rfl, _, rfl, b, v, rfl, rfl, b + v, 2, rfl, rfl, d2 _, _, rfl, _, rfl, b, v, rfl, rfl, b - v, 2, rfl, rfl, d2 _, _, rfl, _, rfl, c, w, rfl, rfl, c + w, 2, rfl, rfl, d2 _, _, rfl, _, rfl, c, w, rfl, rfl, c - w, 2, rfl, rfl, d2 _, by show 6 ≤ sizeLine; decide, fun h hh => ?_⟩
    exact ⟨h, rfl, same_upd hh, upd_same⟩
  obtain ⟨h, rfl, t3, hh3⟩ := hM
  have hr3' := t3 _ _ hr2'
  -- known
  refine ⟨fun σ H' => ∃ (kn : Addr) (m : Nat), σ = [some (.ref p1), some (.ref p2), some (.ref p3), some (.int a), some (.int u), some (.int b), some (.int v), some (.int c), some (.int w), some (.ref r), some (.ref h), some (.ref kn), none, none, none, none, none] ∧ Same H3 H' ∧ H' kn = some (.lst (factsL m)) ∧ (a + b - c) / 2 ≤ m ∧ (a - b + c) / 2 ≤ m ∧ (b - a + c) / 2 ≤ m, ?_, fun σ H4 hM => ?_⟩
  · refine ⟨_, rfl, r, [(a + b - c) / 2, (a - b + c) / 2, (b - a + c) / 2], rfl, SqL.of hr3', by show 0 < 3; decide, fun m hm hmax => ?_⟩
    have mc : m = (a + b - c) / 2 ∨ m = (a - b + c) / 2 ∨ m = (b - a + c) / 2 := by simpa using hm
    have m1 := hmax ((a + b - c) / 2) (by simp)
    have m2 := hmax ((a - b + c) / 2) (by simp)
    have m3 := hmax ((b - a + c) / 2) (by simp)
    refine ⟨m.toNat, congrArg (fun z => [V.int z]) (by omega), by omega, fun kn hkn => ?_⟩
    exact ⟨kn, m.toNat, rfl, same_upd hkn, upd_same, by omega, by omega, by omega⟩
  obtain ⟨kn, m, rfl, t4, hkn4, m1, m2, m3⟩ := hM
  have hr4' := t4 _ _ hr3'
  -- common
  refine ⟨fun σ H' => σ = [some (.ref p1), some (.ref p2), some (.ref p3), some (.int a), some (.int u), some (.int b), some (.int v), some (.int c), some (.int w), some (.ref r), some (.ref h), some (.ref kn), some (.int ((jCom a u b v c : Nat) : Int)), none, none, none, none] ∧ H' = H4, ?_, fun σ H5 hM => ?_⟩
  · have f1 := fact_lt ((a + b - c) / 2).toNat (by omega)
    have f2 := fact_lt ((a - b + c) / 2).toNat (by omega)
    have f3 := fact_lt ((b - a + c) / 2).toNat (by omega)
    have f12 := wide_lt (nat_bits f1) (nat_bits f2)
    refine ⟨_, rfl, _, rfl, r, _, 0, _, rfl, rfl, SqL.of hr4', atI_nat (j := 0) rfl, kn, _, _, _, rfl, rfl, SqL.of hkn4, facts_at (by omega) (by omega), _, rfl, _, rfl, r, _, 1, _, rfl, rfl, SqL.of hr4', atI_nat (j := 1) rfl, kn, _, _, _, rfl, rfl, SqL.of hkn4, facts_at (by omega) (by omega), _, _, rfl, rfl, cmulw (nat_bits f1) (nat_bits f2) (by decide) (by decide) (by decide), _, rfl, _, rfl, r, _, 2, _, rfl, rfl, SqL.of hr4', atI_nat (j := 2) rfl, kn, _, _, _, rfl, rfl, SqL.of hkn4, facts_at (by omega) (by omega), _, _, rfl, rfl, cmulw f12 (nat_bits f3) (by decide) (by decide) (by decide), ?_, rfl⟩
    rw [com_eq P1 P2 P3 J, Int.natCast_mul, Int.natCast_mul]
    rfl
  obtain ⟨rfl, eH5⟩ := hM
  replace eH5 := eH5.symm
  subst eH5
  -- whole
  refine ⟨fun σ H' => ∃ v14 v15 : Option V, σ = [some (.ref p1), some (.ref p2), some (.ref p3), some (.int a), some (.int u), some (.int b), some (.int v), some (.int c), some (.int w), some (.ref r), some (.ref h), some (.ref kn), some (.int ((jCom a u b v c : Nat) : Int)), some (.int (jSum a u b v c)), v14, v15, none] ∧ Same H4 H', ?_, fun σ H6 hM => ?_⟩
  · refine ⟨_, rfl, _, rfl, _, rfl, p1, p2, a, u, b, v, c, _, _, _, _, _, _, rfl, ((t2.trans t3).trans t4) _ _ hp1, ((t2.trans t3).trans t4) _ _ hp2, T, fun l us lo hi H6 s6 hl l0 ok hiA hR => ?_⟩
    have okn : ∀ i, i < (hi + 1 - lo).toNat → okK (jA a b c) (jB a u) (jC b v) (jD b u c) (jE a v c) (lo.toNat + i) = true := fun i hi' => (ok _).mpr ⟨by omega, by omega⟩
    refine ⟨l, rfl, ⟨_, SqL.of hl⟩, fun D hD => lc_list (xs := us.map V.ref) (fun i H' => Same H6 H' ∧ H' D = some (.lst (((tmL (jA a b c) (jB a u) (jC b v) (jD b u c) (jE a v c) lo.toNat (hi + 1 - lo).toNat).take i).map fun x => V.int (x.1 * (((jCom a u b v c : Nat) : Int) / x.2))))) ⟨same_upd hD, upd_same⟩ (fun i H' _ hP => SqL.of (hP.1 _ _ hl)) (fun i x H' hx hP => ?_) (fun H' hP => ?_)⟩
    · obtain ⟨s7, hD'⟩ := hP
      obtain ⟨t, y, rfl, hy, ht⟩ := (hR.same s7).get hx
      have hi' : i < (hi + 1 - lo).toNat := by
        have := (List.getElem?_eq_some_iff.mp hy).1
        unfold tmL at this
        rw [List.length_map, List.length_range] at this
        exact this
      have ey : y = (sgK (lo.toNat + i), ((botK (jA a b c) (jB a u) (jC b v) (jD b u c) (jE a v c) (lo.toNat + i) : Nat) : Int)) := by
        unfold tmL at hy
        rw [List.getElem?_map, List.getElem?_range hi'] at hy
        exact (Option.some.inj hy).symm
      have bp := botK_pos (jA a b c) (jB a u) (jC b v) (jD b u c) (jE a v c) (lo.toNat + i)
      have bd := Nat.le_of_dvd (comK_pos _ _ _ _ _) (botK_dvd (okn i hi'))
      have cl := comK_lt (A := jA a b c) (B := jB a u) (C := jC b v) (D := jD b u c) (E := jE a v c) (by have := T.lA; have := T.s1; omega) (by have := T.lD; have := T.s1; omega) (by have := T.lE; have := T.s1; omega)
      have cd : CDivW ((jCom a u b v c : Nat) : Int) y.2 := by
        rw [ey]
        refine ⟨by show (0 : Int) < ((botK _ _ _ _ _ _ : Nat) : Int); omega, ?_⟩
        rw [Int.natAbs_natCast]
        exact Nat.lt_of_lt_of_le (PySem.Flt.log2_lt_of (show 0 < 840 by decide) (Nat.lt_of_le_of_lt bd cl)) (by decide)
      have cm : ∀ z : Int, CMul y.1 z := fun z => by
        rw [ey]
        refine .inl ?_
        show -(2 ^ 64) < sgK _ ∧ sgK _ < 2 ^ 64
        unfold sgK
        split <;> exact ⟨by decide, by decide⟩
      refine ⟨t, _, rfl, SqT.of ht, rfl, _, _, rfl, _, _, rfl, rfl, rfl, ?_⟩
      refine ⟨_, rfl, _, rfl, _, rfl, _, y.2, rfl, rfl, cd, y.1, _, rfl, rfl, cm _, _, hD', ?_, ?_, ?_⟩
      · rw [List.length_map, List.length_take, sizeLine_eq]
        unfold tmL
        rw [List.length_map, List.length_range]
        have := T.lA
        have := T.s1
        omega
      · intro x y e
        rw [upd_ne (ne_of_none e hD)]
        exact s7 _ _ e
      · rw [upd_same, List.take_add_one, hy, List.map_append]
        rfl
    · obtain ⟨s7, hD'⟩ := hP
      have eL : ((tmL (jA a b c) (jB a u) (jC b v) (jD b u c) (jE a v c) lo.toNat (hi + 1 - lo).toNat).take (us.map V.ref).length).map (fun x => V.int (x.1 * (((jCom a u b v c : Nat) : Int) / x.2))) = ((tmL (jA a b c) (jB a u) (jC b v) (jD b u c) (jE a v c) lo.toNat (hi + 1 - lo).toNat).map (fun x => x.1 * (((jCom a u b v c : Nat) : Int) / x.2))).map V.int := by
        rw [List.length_map, hR.len, List.take_length, List.map_map]
        rfl
      rw [eL] at hD'
      refine ⟨D, _, rfl, SqL.of hD', none, none, ?_, s6.trans s7⟩
      have es : ((tmL (jA a b c) (jB a u) (jC b v) (jD b u c) (jE a v c) lo.toNat (hi + 1 - lo).toNat).map (fun x => x.1 * (((jCom a u b v c : Nat) : Int) / x.2))).sum = jSum a u b v c := (tm_sum okn).trans (sumK_let l0 ok hiA).symm
      rw [es]
      rfl
  obtain ⟨v14, v15, rfl, s6⟩ := hM
  have hr6 := s6 _ _ hr4'
  have hh6 := s6 _ _ (t4 _ _ hh3)
  -- root
  refine ⟨_, rfl, c, 1, rfl, rfl, _, rfl, h, _, rfl, .inr (SqL.of hh6), by show 7 ≤ sizeLine; decide, fun l1 hl1 => ?_⟩
  have s7 := same_upd (o := .lst (natV (jAb a u b v c w))) hl1
  have e7 : HO.lst (V.int (c + 1) :: ([(a + u) / 2, (a - u) / 2, (b + v) / 2, (b - v) / 2, (c + w) / 2, (c - w) / 2].map V.int ++ [])) = .lst (natV (jAb a u b v c w)) := by
    unfold natV jAb
    simp only [List.map_cons, List.map_nil, List.append_nil]
    rw [show (((c + 1).toNat : Nat) : Int) = c + 1 by omega, show ((((a + u) / 2).toNat : Nat) : Int) = (a + u) / 2 by omega, show ((((a - u) / 2).toNat : Nat) : Int) = (a - u) / 2 by omega, show ((((b + v) / 2).toNat : Nat) : Int) = (b + v) / 2 by omega, show ((((b - v) / 2).toNat : Nat) : Int) = (b - v) / 2 by omega, show ((((c + w) / 2).toNat : Nat) : Int) = (c + w) / 2 by omega, show ((((c - w) / 2).toNat : Nat) : Int) = (c - w) / 2 by omega]
  have h7 : upd H6 l1 (.lst (V.int (c + 1) :: ([(a + u) / 2, (a - u) / 2, (b + v) / 2, (b - v) / 2, (c + w) / 2, (c - w) / 2].map V.int ++ []))) = upd H6 l1 (.lst (natV (jAb a u b v c w))) := by rw [e7]
  refine ⟨_, rfl, _, rfl, _, rfl, a, b, rfl, rfl, _, rfl, a + b, c, rfl, rfl, a + b + c, 2, rfl, rfl, d2 _, (a + b + c) / 2, 1, rfl, rfl, _, rfl, r, _, rfl, .inr (SqL.of (by rw [h7]; exact s7 _ _ hr6)), by show 5 ≤ sizeLine; decide, fun l2 hl2 => ?_⟩
  rw [h7] at hl2 ⊢
  have e8 : HO.lst (V.int c :: V.int ((a + b + c) / 2 + 1) :: ([(a + b - c) / 2, (a - b + c) / 2, (b - a + c) / 2].map V.int ++ [])) = .lst (natV (jBe a b c)) := by
    unfold natV jBe
    simp only [List.map_cons, List.map_nil, List.append_nil]
    rw [show ((c.toNat : Nat) : Int) = c by omega, show ((((a + b + c) / 2 + 1).toNat : Nat) : Int) = (a + b + c) / 2 + 1 by omega, show ((((a + b - c) / 2).toNat : Nat) : Int) = (a + b - c) / 2 by omega, show ((((a - b + c) / 2).toNat : Nat) : Int) = (a - b + c) / 2 by omega, show ((((b - a + c) / 2).toNat : Nat) : Int) = (b - a + c) / 2 by omega]
  have h8 : ∀ G : Hp, upd G l2 (.lst (V.int c :: V.int ((a + b + c) / 2 + 1) :: ([(a + b - c) / 2, (a - b + c) / 2, (b - a + c) / 2].map V.int ++ []))) = upd G l2 (.lst (natV (jBe a b c))) := fun G => by rw [e8]
  have s8 := same_upd (o := .lst (natV (jBe a b c))) hl2
  rw [h8]
  have la := jAb_lt P1 P2 P3
  have lb := jBe_lt P1 P2 P3
  refine ⟨l1, l2, jAb a u b v c w, jBe a b c, rfl, s8 _ _ upd_same, upd_same, by show 0 < 7; decide, by show 7 ≤ 50; decide, by show 5 ≤ 50; decide, fun n hn => by have := la n hn; omega, fun n hn => by have := lb n hn; omega, fun x H7 s9 hx hN => ?_⟩
  -- times
  refine ⟨_, rfl, _, rfl, jSum a u b v c, 1, 1, 40, rfl, by decide, by decide, by decide, by decide, root_ok1, fun y H8 s10 hy hM => ?_⟩
  have sA : Same H H8 := (((((t2.trans t3).trans t4).trans s6).trans (s7.trans s8)).trans s9).trans s10
  refine ⟨x, y, rootL (jAb a u b v c w) (jBe a b c), exL (jSum a u b v c) 1 1, botE (jAb a u b v c w) (jBe a b c), 1, 2000, 900, 1500, 1, 200, rfl, hN.same s10, hM, fit_rootL la (by show 7 ≤ 7; decide), fit_one (jSum_lt P1 P2 P3 J) (by decide), botE_pos _ _, by decide, botE_lt P1 P2 P3, by decide, by decide, by decide, by decide, by decide, by decide, by decide, by decide, by decide, by show 1 ≤ 60; decide, by rw [exL_one]; have := len_oneL 1 (jSum a u b v c) 1; omega, by rw [exL_one]; have := len_oneL 1 (jSum a u b v c) 1; show 1 * _ ≤ 900; omega, fun z N H9 s11 hz hNz fN vN lN => ?_⟩
  have bp := botE_pos (jAb a u b v c w) (jBe a b c)
  have tp := topE_pos (jAb a u b v c w) (jBe a b c)
  have rp := (rootE_sqF (jAb a u b v c w) (jBe a b c)).pos
  have eN := times_one (r := ((rootE (jAb a u b v c w) (jBe a b c) : Nat) : Int)) (q := Rat.divInt ((topE (jAb a u b v c w) (jBe a b c) : Nat) : Int) ((botE (jAb a u b v c w) (jBe a b c) : Nat) : Int)) (by omega) (divInt_ne (by omega) (by omega)) fN.can vN
  refine q z H9 (sA.trans s11) (sA.free hz) ?_
  unfold joinL
  rw [if_pos J, ← eN]
  exact hNz
end
end TC
namespace TC
open PySem PySem.Spec PyProof.Rows L2 TCA TCX
theorem dec_int (a b : Int) : decide (V.int a = V.int b) = decide (a = b) := by
  by_cases h : a = b
  · rw [h, decide_eq_true rfl, decide_eq_true rfl]
  · rw [decide_eq_false h, decide_eq_false fun z => h (V.int.inj z)]
theorem Same.but {H H' : Hp} {p : Addr} (s : Same H H') : SameBut p H H' := fun b o _ e => s b o e
theorem SameBut.trans {H H1 H2 : Hp} {p : Addr} (s : SameBut p H H1) (t : SameBut p H1 H2) : SameBut p H H2 := fun b o n e => t b o n (s b o n e)
theorem SameBut.refl {H : Hp} {p : Addr} : SameBut p H H := fun _ _ _ e => e
theorem SameBut.new {H H1 : Hp} {p q : Addr} {o : HO} (s : SameBut p H H1) (n : H1 q = none) : SameBut p H (upd H1 q o) := s.trans (Same.but (same_upd n))
theorem PenAt.same {H H' : Hp} {p c : Addr} {ms : List Int} {n : Int} (h : PenAt H p c ms n) (s : Same H H') : PenAt H' p c ms n := by
  obtain ⟨l, h1, h2, h3⟩ := h
  exact ⟨l, s _ _ h1, s _ _ h2, h3⟩
theorem PenAt.new {H : Hp} {p c q : Addr} {ms : List Int} {n : Int} {o : HO} (h : PenAt H p c ms n) (hq : H q = none) : PenAt (upd H q o) p c ms n := h.same (same_upd hq)
theorem PenAt.ne {H : Hp} {p c q : Addr} {ms : List Int} {n : Int} (h : PenAt H p c ms n) (hq : H q = none) : q ≠ p := by
  obtain ⟨l, h1, h2, h3⟩ := h
  exact fun e => by rw [e, h1] at hq; cases hq
end TC
namespace TC
open PySem PySem.Spec PyProof.Rows L2 TCA TCX
section
variable {P : Program} {w : World} {K : PySem.W.Frag} {mg : Str → Option Value} {base : Heap} {f fD : Addr} {fd fdD : FuncData}
/-! ### _law_size -/
theorem at4 {a b c d : V} {i : Int} (h0 : 0 ≤ i) (h1 : i < 4) : atI [a, b, c, d] i = some ([a, b, c, d].getD i.toNat a) := by
  have : i = 0 ∨ i = 1 ∨ i = 2 ∨ i = 3 := by omega
  rcases this with rfl | rfl | rfl | rfl <;> exact atI_nat rfl
/-! ### _law_fits -/
def fitsB (a b c : Int) : Bool := decide ((a + b + c) % 2 = 0) && (decide (c ≤ a + b) && (decide (a ≤ b + c) && decide (b ≤ a + c)))
def spFits : Sp := fun vs H Q _ => ∃ a b c : Int, vs = [.int a, .int b, .int c] ∧ Q (.bl (fitsB a b c)) H
end
end TC
namespace TC
open PySem PySem.Spec PyProof.Rows L2 TCA TCX
section
variable {P : Program} {w : World} {K : PySem.W.Frag} {mg : Str → Option Value} {base : Heap} {f fD fF : Addr} {fd fdD fdF : FuncData}
/-! ### _law_third -/
/-- the whole numbers from 0 to k - 1 that fit -/
def fitL (a b : Int) (k : Nat) : List Int := ((List.range k).map fun i => (0 : Int) + (i : Nat)).filter (fitsB a b)
theorem fitL_succ (a b : Int) (k : Nat) : fitL a b (k + 1) = fitL a b k ++ (if fitsB a b (0 + (k : Nat)) = true then [0 + ((k : Nat) : Int)] else []) := by
  unfold fitL
  rw [List.range_succ, List.map_append, List.filter_append]
  congr 1
  show List.filter (fitsB a b) [0 + ((k : Nat) : Int)] = _
  by_cases h : fitsB a b (0 + (k : Nat)) = true
  · rw [if_pos h, List.filter_cons_of_pos h]
    rfl
  · rw [if_neg h, List.filter_cons_of_neg h]
    rfl
theorem fitL_len (a b : Int) (k : Nat) : (fitL a b k).length ≤ k := by
  unfold fitL
  refine Nat.le_trans (List.length_filter_le _ _) ?_
  rw [List.length_map, List.length_range]
  exact Nat.le_refl _
theorem fitL_mem {a b : Int} {k : Nat} {c : Int} : c ∈ fitL a b k ↔ 0 ≤ c ∧ c < k ∧ fitsB a b c = true := by
  unfold fitL
  rw [List.mem_filter, List.mem_map]
  constructor
  · rintro ⟨⟨i, hi, rfl⟩, h⟩
    have := List.mem_range.mp hi
    exact ⟨by omega, by omega, h⟩
  · rintro ⟨h0, h1, h2⟩
    exact ⟨⟨c.toNat, List.mem_range.mpr (by omega), by omega⟩, h2⟩
def thirdL (a b h : Int) : List Int := fitL a b (h + 1).toNat ++ (if (if a - b < 0 then -(a - b) else a - b) > h then [h] else [])
theorem thirdL_ne {a b h : Int} (ha : 0 ≤ a) (hb : 0 ≤ b) (hh : 0 ≤ h) : 0 < (thirdL a b h).length := by
  unfold thirdL
  by_cases z : (if a - b < 0 then -(a - b) else a - b) > h
  · rw [if_pos z, List.length_append]
    show 0 < _ + 1
    omega
  · rw [if_neg z, List.append_nil]
    refine List.length_pos_of_mem (a := if a - b < 0 then -(a - b) else a - b) (fitL_mem.mpr ⟨?_, ?_, ?_⟩)
    · split <;> omega
    · split at z <;> split <;> omega
    · unfold fitsB
      have e : ∀ c : Int, (c = a - b ∨ c = b - a) → 0 ≤ c → (decide ((a + b + c) % 2 = 0) && (decide (c ≤ a + b) && (decide (a ≤ b + c) && decide (b ≤ a + c)))) = true := fun c hc h0 => by
        rw [decide_eq_true (by omega), decide_eq_true (by omega), decide_eq_true (by omega), decide_eq_true (by omega)]
        rfl
      split
      · exact e _ (by omega) (by omega)
      · exact e _ (by omega) (by omega)
def spThird : Sp := fun vs H Q _ => ∃ (p c : Addr) (ms : List Int) (n a b h : Int), vs = [.ref p, .int a, .int b, .int h] ∧ PenAt H p c ms n ∧ 0 ≤ n ∧ n ≤ 900000 ∧ 0 ≤ a ∧ 0 ≤ b ∧ 0 ≤ h ∧ h ≤ 1000 ∧
  ∀ (d n' : Int) H', d ∈ thirdL a b h → n ≤ n' → n' ≤ n + 1 → PenAt H' p c ms n' → SameBut p H H' → Q (.int d) H'
abbrev nThird : List Str := ["_law_pen_here", "_law_a", "_law_b", "_law_high", "_law_some", "_law_c"]
end
end TC
namespace TC
open PySem PySem.Spec PyProof.Rows L2 TCA TCX
theorem fits_iff {a b c : Int} : fitsB a b c = true ↔ (a + b + c) % 2 = 0 ∧ c ≤ a + b ∧ a ≤ b + c ∧ b ≤ a + c := by
  unfold fitsB
  simp only [Bool.and_eq_true, decide_eq_true_eq]
theorem third_fits {a b h d : Int} (a0 : 0 ≤ a) (a1 : a ≤ h) (b0 : 0 ≤ b) (b1 : b ≤ h) (hd : d ∈ thirdL a b h) : 0 ≤ d ∧ d ≤ h ∧ fitsB a b d = true := by
  unfold thirdL at hd
  have n : ¬ (if a - b < 0 then -(a - b) else a - b) > h := by
    split <;> omega
  rw [if_neg n, List.append_nil] at hd
  obtain ⟨h0, h1, h2⟩ := fitL_mem.mp hd
  exact ⟨h0, by omega, h2⟩
theorem lt_1000 {m : Int} (h : m ≤ 1000) : m < 2 ^ 1000 := Int.lt_of_le_of_lt h (by decide +kernel)
section
variable {P : Program} {w : World} {K : PySem.W.Frag} {mg : Str → Option Value} {base : Heap} {f fD fT fZ fP fS : Addr} {fd fdD fdT fdZ fdP fdS : FuncData}
end
end TC
namespace TC
open PySem PySem.Spec PyProof.Rows L2 TCA
section
variable {X : Cx}
/-- sorted(d), the keys whole numbers, up to a thousand of them -/
theorem call_sortedMany (cm : X.calm = true) : CallR X (.builtin "sorted") (fun xs H Q => ∃ (d : Addr) (es : List (Key × V)) (js : List Int), xs = [.ref d] ∧ Rd H d (.dK es) ∧ es.map (·.1) = js.map Sum.inl ∧
    js.length ≤ 1000 ∧ ∀ (zs : List Int) (l : Addr), zs.Perm js → zs.Pairwise (· ≤ ·) → H l = none → Q (.ref l) (upd H l (.lst (zs.map V.int)))) := by
  intro pins st σ H xs us Q Iv rv hh
  obtain ⟨d, es, js, rfl, rd, ek, small, q⟩ := hh
  obtain ⟨w0, rfl, rw0⟩ := vals1 rv
  cases rw0
  obtain ⟨_, low, ws, rl, da⟩ := dk_rd Iv.hok rd
  obtain ⟨spot, at0⟩ := da.dictAt
  have kk : ws.map (·.1) = js.map Sum.inl := (rl.keys.symm).trans ek
  have wl : ws.length = js.length := by
    have := congrArg List.length kk
    simpa using this
  have fits : ∀ {n : Nat}, n = js.length → n ≤ sizeLine := fun {n} e => by
    rw [e]
    exact Nat.le_trans small (by decide)
  refine Calls.call_function_entry kind_sorted plain_sorted entry_sorted (args_sorted1 _) ?_
  unfold Builtin.«sorted»
  refine wpAny_bind (m := checkCount "sorted" 1 1 _) (wpAny_pure (wpAny_bind ?_))
  refine PySem.W.kdu_collect (A := X.A.in1) (PySem.W.kdl_dict (knd := mixKind X.prog X.w) (kvs := ws) (ep := spot) low) (Iv.ok.hd cm) at0 (fits wl) fun g tk got gk gg => ?_
  have gl : got.toList.length = js.length := by
    rw [Array.length_toList, gg.1, wl]
  have inS : IntsAre got.toList js := by
    refine ints_each gl fun n v e => ?_
    rw [Array.getElem?_toList] at e
    obtain ⟨key, _, f1, f2⟩ := gg.2 n v e
    have f3 := congrArg (fun z => z[n]?) kk
    simp only [List.getElem?_map, f1, Option.map_some] at f3
    cases f4 : js[n]? with
    | none =>
      rw [f4] at f3
      cases f3
    | some y =>
      rw [f4] at f3
      have f5 : key = Sum.inl y := Option.some.inj f3
      rw [f5] at f2
      rcases keyIs_shape (show keyIs (Sum.inl y) v = true from f2) with ⟨i, t, g1, g2⟩ | ⟨_, _, g1, _⟩
      · cases g1
        exact ⟨y, t, rfl, g2⟩
      · cases g1
  have Iv2 : Inv X pins σ H { st with heap := g, toks := tk } := Iv.kept gk
  refine wpAny_bind (wpAny_newList ?_ (fits gl))
  have lay := Heap.get?_push_size g (o := seqObj "list" got.toList.toArray 0) rfl
  show wpAny _ _ _ _ _ { st with heap := g.push (seqObj "list" got.toList.toArray 0), toks := tk }
  refine wpAny_bind (wpAny_holding (wpAny_call_entry slot_list_sort ⟨_, lay, rfl⟩ entry_list_sort ?_ (args_list_sort _)))
  refine SrtO.list_sort_ord SrtO.swo_int lay (fits gl) (fun two => SrtO.ints_sortable inS two) fun out s1 s2 => ⟨_, rfl, ?_⟩
  obtain ⟨o1, o2, o3⟩ := SrtO.ints_out inS s1 s2
  obtain ⟨c, at1⟩ := sortedHeap_at (vs := got.toList) (out := out.toArray) lay
  have inl := fits (show ((out.map SrtO.iv).map V.int).length = js.length by rw [List.length_map, o2.length_eq])
  refine wpAny_pure ⟨_, rfl, .ref g.objs.size, upd H g.objs.size (.lst ((out.map SrtO.iv).map V.int)), Iv2.laid (t' := tk) (fun b x e => ?_) (Nat.le_refl _)
      (show ObjOk X.prog X.w _ _ _ (.lst ((out.map SrtO.iv).map V.int)) from ⟨inl, out, c, vals_of_ints o1, at1⟩), rfl, q _ _ o2 o3 (Iv2.hok.fresh (Nat.le_refl _))⟩
  have less := Heap.lt_size e
  rw [sortedHeap_old (Nat.ne_of_lt less) (by rw [size_push']; exact Nat.lt_succ_of_lt less)]
  exact Heap.get?_push_of_some _ e
end
end TC
/-! repr of lists of ints; the end of a law whose own def asks repr. -/
namespace TCX
open PySem PySem.Spec PyProof.Rows L2
/-! ### data of lists of ints -/
def dInts (ns : List Int) : List PyData := ns.map PyData.int
theorem dpAll_ints {K : PySem.W.Frag} {H : Hp} : ∀ ns : List Int, DpAll K H (ns.map V.int) (dInts ns)
  | [] => .nil
  | n :: r => .cons (.int n) (dpAll_ints r)
theorem dp_ints {K : PySem.W.Frag} {H : Hp} {a : Addr} {ns : List Int} (h : H a = some (.lst (ns.map V.int))) : Dp K H (.ref a) (.list (dInts ns)) := .lst (SqL.of h) (dpAll_ints ns)
theorem log_small {i : Int} (h : i.natAbs < 10 ^ 9) : i.natAbs.log2 < 30 := Nat.lt_of_lt_of_le (PySem.Flt.log2_lt_of (show 0 < 30 by decide) (Nat.lt_trans h (by decide))) (by decide)
theorem ints_show : ∀ ns : List Int, (∀ n ∈ ns, n.natAbs < 10 ^ 9) → PyData.showableAll (dInts ns) = true ∧ PyData.hasDictAll (dInts ns) = false ∧ PyData.depthAll (dInts ns) = 0 ∧ PyData.leavesShortAll 13 (dInts ns) = true ∧ PyData.weightAll (dInts ns) ≤ 40 * ns.length
  | [], _ => ⟨rfl, rfl, rfl, rfl, Nat.le_refl _⟩
  | n :: r, h => by
    obtain ⟨h1, h2, h3, h4, h5⟩ := ints_show r fun m hm => h m (List.mem_cons_of_mem _ hm)
    have hn := h n List.mem_cons_self
    have hl := log_small hn
    refine ⟨?_, ?_, ?_, ?_, ?_⟩
    · show (PyData.showable (.int n) && PyData.showableAll (dInts r)) = true
      rw [h1, Bool.and_true]
      simp only [PyData.showable, decide_eq_true_eq]
      omega
    · show (PyData.hasDict (.int n) || PyData.hasDictAll (dInts r)) = false
      rw [h2]
      rfl
    · show max (PyData.depth (.int n)) (PyData.depthAll (dInts r)) = 0
      rw [h3]
      rfl
    · show (PyData.leavesShort 13 (.int n) && PyData.leavesShortAll 13 (dInts r)) = true
      rw [h4, Bool.and_true]
      exact decide_eq_true (PyData.shown_int_le (Nat.lt_trans hn (by decide)))
    · show PyData.weight (.int n) + 1 + PyData.weightAll (dInts r) ≤ 40 * (r.length + 1)
      have : PyData.weight (.int n) ≤ 31 := by
        show (if n == 0 then 0 else n.natAbs.log2 + 1) ≤ 31
        split <;> omega
      omega
structure Shows (d : PyData) : Prop where
  s : d.showable = true
  h : d.hasDict = false
  dp : d.depth ≤ 60
  z : d.shown.length ≤ sizeLine
theorem shows_ints {ns : List Int} (h : ∀ n ∈ ns, n.natAbs < 10 ^ 9) (hl : ns.length ≤ 10000) : Shows (.list (dInts ns)) := by
  obtain ⟨h1, h2, h3, h4, h5⟩ := ints_show ns h
  refine ⟨h1, h2, ?_, PyData.shown_fits (B := 13) (by decide) (by decide) (d := .list (dInts ns)) h4 ?_⟩
  · show PyData.depthAll (dInts ns) + 1 ≤ 60
    omega
  · show PyData.weightAll (dInts ns) ≤ 2 ^ 20
    omega
/-! ### the end of a law, by FnG -/
section
variable {P : Program} {w : World} {K : PySem.W.Frag} {mg mb : Str → Option Value} {CX : CXT} {k : Nat} {fa a : Addr} {cs : List (Addr × Addr)} {fd : FuncData} {x : Str} {sp : Sp} {s₁ : Shared} {vs : List Value} {ns : List Int}
/-- the script (where K doesn't hold it) and the tables are tracked at the law's call -/
def hLaw (K : PySem.W.Frag) (T : List Addr) (a : Addr) (ob : Obj) (xs : List V) : Hp := fun b =>
  if b ∈ T then some (.tbl #[]) else if b = a ∧ K.lookup a = none then some (.frz ob (.lst xs)) else none
theorem hLaw_tab {T : List Addr} {ob : Obj} {xs : List V} {b : Addr} (h : b ∈ T) : hLaw K T a ob xs b = some (.tbl #[]) := if_pos h
theorem hLaw_inv {T : List Addr} {ob : Obj} {xs : List V} {b : Addr} {u : HO} (h : hLaw K T a ob xs b = some u) : (b ∈ T ∧ u = .tbl #[]) ∨ (b = a ∧ K.lookup a = none ∧ u = .frz ob (.lst xs)) := by
  unfold hLaw at h
  by_cases hT : b ∈ T
  · rw [if_pos hT] at h
    exact .inl ⟨hT, (Option.some.inj h).symm⟩
  · rw [if_neg hT] at h
    by_cases ha : b = a ∧ K.lookup a = none
    · rw [if_pos ha] at h
      exact .inr ⟨ha.1, ha.2, (Option.some.inj h).symm⟩
    · rw [if_neg ha] at h
      cases h
theorem law_callG (KX : K.In s₁.heap) (hns : s₁.heap.Ns mainGlobals mg) (hb : s₁.heap.Ns builtinsNs mb) (hbb : ∀ x : Str, x ≠ "__name__" → mb x = bootBuiltins x) (hlim : s₁.heap.NoLimit) (hg : s₁.gens = #[])
    (hT : ∀ p ∈ cs, s₁.heap.get? p.2 = some { cls := .none, data := .fields #[] }) (nT : ∀ p ∈ cs, K.lookup p.2 = none) (C : ∀ p ∈ cs, PySem.W.CodeHd s₁.heap p.1 p.2)
    (hbm : ∃ (bm : Addr) (ob : Obj), mg "__builtins__" = some (.ref bm) ∧ bm ≠ builtinsNs ∧ s₁.heap.get? bm = some ob ∧ ob.cls = .type "module" ∧ ob.dict = some builtinsNs ∧ ob.data = .plain)
    (ha : s₁.heap.get? a = some { cls := .type "list", data := .seq vs.toArray }) (hi : IntsAre vs ns) (hl : ns.length ≤ sizeLine) (hr : Room k callerA)
    (F : ∀ base : Heap, K.In base → base.Ns mainGlobals mg → (∀ p ∈ cs, LamX.TabB base mg p.1 p.2) → FnG P w K mg base CX k fa fd [x] sp) (hbind : ∀ (s : Shared) (u : Value), BindsTo s fd ⟨[u], []⟩ [(x, u)])
    (hsp : ∀ H : Hp, (∀ p ∈ cs, H p.2 = some (.tbl #[])) → SqL K H a (ns.map V.int) → sp [.ref a] H (fun v _ => v = .bl true) fun _ _ _ => False)
    (hCX : ∀ H e s', CX [] H s₁ (fun _ _ _ => False) e s' → False) :
    codeAny (model P w) callerA (.call (.ref fa) ⟨[.ref a], []⟩) (fun r s' => r = .ok (.ret (.bool true)) ∧ OldK s₁.heap s'.heap ∧ s'.os = s₁.os ∧ AllBare s'.gens) s₁ := by
  have rv := vals_ints hi
  have lenV := hi.length
  obtain ⟨T, eT⟩ : ∃ T : List Addr, cs.map (·.2) = T := ⟨_, rfl⟩
  have tIn : ∀ p ∈ cs, p.2 ∈ T := fun p hp => by
    rw [← eT]
    exact List.mem_map.mpr ⟨p, hp, rfl⟩
  have tOut : ∀ b, b ∈ T → ∃ p ∈ cs, p.2 = b := fun b h => by
    rw [← eT] at h
    exact List.mem_map.mp h
  have tGet : ∀ b, b ∈ T → s₁.heap.get? b = some { cls := .none, data := .fields #[] } := fun b h => by
    obtain ⟨p, hp, rfl⟩ := tOut b h
    exact hT p hp
  have aOut : a ∉ T := fun z => by
    have q := ha.symm.trans (tGet a z)
    cases q
  obtain ⟨H, eH⟩ : ∃ H : Hp, hLaw K T a { cls := .type "list", data := .seq vs.toArray } (ns.map V.int) = H := ⟨_, rfl⟩
  have inv : ∀ {b : Addr} {u : HO}, H b = some u → (b ∈ T ∧ u = .tbl #[]) ∨ (b = a ∧ K.lookup a = none ∧ u = .frz { cls := .type "list", data := .seq vs.toArray } (.lst (ns.map V.int))) := fun h => by
    rw [← eH] at h
    exact hLaw_inv h
  have hH : ∀ p ∈ cs, H p.2 = some (.tbl #[]) := fun p hp => by
    rw [← eH]
    exact hLaw_tab (tIn p hp)
  have hS : SqL K H a (ns.map V.int) := by
    cases hk : K.lookup a with
    | none => exact .inl (.inr ⟨_, by rw [← eH]; exact (if_neg aOut).trans (if_pos ⟨rfl, hk⟩)⟩)
    | some o =>
      have e := (KX a o hk).symm.trans ha
      cases e
      exact .inr ⟨_, vs.toArray, _, hk, rfl, rfl, rfl, by rw [List.size_toArray, lenV]; exact hl, by simpa using rv⟩
  have hok : HOk P w H s₁.heap := fun b u e => by
    rcases inv e with ⟨h1, rfl⟩ | ⟨rfl, _, rfl⟩
    · exact tGet b h1
    · exact ⟨ha, by rw [List.length_map]; exact hl, vs, _, rv, ha⟩
  -- what is neither the script nor a table isn't tracked
  have off : ∀ {b : Addr} {o : Obj}, s₁.heap.get? b = some o → (∀ us n, o.data ≠ .seq us n) → o.data ≠ .fields #[] → H b = none := fun {b o} e h1 h2 => by
    cases q : H b with
    | none => rfl
    | some u =>
      rcases inv q with ⟨g1, _⟩ | ⟨rfl, _, _⟩
      · rw [tGet b g1] at e
        cases e
        exact absurd rfl h2
      · rw [ha] at e
        cases e
        exact absurd rfl (h1 _ _)
  have nsK : ∀ {b : Addr} {m : Str → Option Value}, s₁.heap.Ns b m → (hidT s₁.heap H).Ns b m := fun {b m} z => by
    obtain ⟨o, es, ep, e, d, r⟩ := z
    exact ⟨o, es, ep, hidT_get e (off e (fun us n y => by rw [d] at y; cases y) fun y => by rw [d] at y; cases y), d, r⟩
  have hKb : K.In (hidT s₁.heap H) := fun b o e => hidT_get (KX b o e) (by
    cases q : H b with
    | none => rfl
    | some u =>
      rcases inv q with ⟨g1, _⟩ | ⟨rfl, g2, _⟩
      · obtain ⟨p, hp, rfl⟩ := tOut b g1
        rw [nT p hp] at e
        cases e
      · rw [g2] at e
        cases e)
  have hM : L2.Mod K mg (hidT s₁.heap H) := ⟨hKb, nsK hns, ⟨mb, nsK hb, hbb⟩, let ⟨mc, h1, h2⟩ := hlim; ⟨mc, nsK h1, h2⟩⟩
  have TB : ∀ p ∈ cs, LamX.TabB (hidT s₁.heap H) mg p.1 p.2 := fun p hp => by
    have hTp := hT p hp
    refine ⟨?_, ?_, fun z => ?_⟩
    · obtain ⟨o, us, file, tf, flags, tg, inF, text, tt, e1, r1, r2, r3, r4⟩ := C p hp
      exact ⟨o, us, file, tf, flags, tg, inF, text, tt, hidT_get e1 (off e1 (fun _ _ z => by rw [r2] at z; cases z) fun z => by
        rw [r2] at z
        cases z
        simp at r3), r1, r2, r3, r4⟩
    · obtain ⟨bm, ob, b1, b2, b3, b4, b5, b6⟩ := hbm
      refine ⟨bm, ob, b1, b2, fun y => ?_, fun y => ?_, hidT_get b3 (off b3 (fun _ _ z => by rw [b6] at z; cases z) fun z => by rw [b6] at z; cases z), b4, b5, b6⟩
      · obtain ⟨o, es, ep, e, hd, _⟩ := hns
        rw [y, e] at b3
        cases b3
        rw [hd] at b6
        cases b6
      · rw [y, hTp] at b3
        cases b3
        cases b6
    · obtain ⟨o, es, ep, e, hd, _⟩ := hns
      rw [z, hTp] at e
      cases e
      cases hd
  have e0 : Env0 P w K mg (hidT s₁.heap H) callerA [] s₁ H := ⟨rfl, hM, fun b o e => of_hidT e, Nat.le_of_eq (hidT_size _ _), trivial, fun b hb => absurd (show b ∈ ([] : List Addr) from hb) (by simp), hok, .of_eq hg⟩
  refine codeAny_mono ((F _ hKb (nsK hns) TB).grun callerA [] s₁ H ⟨[.ref a], []⟩ [.ref a] [.ref a] _ _ rfl hr e0 (hbind s₁ (.ref a)) (.cons rfl .nil) (hsp H hH hS)) fun r s' h => ?_
  match r, h with
  | .error e, h => exact (hCX H e s' h).elim
  | .ok .next, h => exact False.elim h
  | .ok .brk, h => exact False.elim h
  | .ok .cont, h => exact False.elim h
  | .ok (.ret u), h =>
    obtain ⟨v, H', os, bare, un, hok', r', q'⟩ := h
    cases (show v = .bl true from q')
    cases (show u = Value.bool true from r')
    have noF : ∀ b : Addr, b ∉ frs ([] : List Env) := fun b z => nomatch (show b ∈ ([] : List Addr) from z)
    have key : ∀ b o, b ∉ T → s₁.heap.get? b = some o → s'.heap.get? b = some o := fun b o nb e => by
      cases q : H b with
      | none => exact un.keep b o e q (noF b) (fun z => nomatch z)
      | some u =>
        rcases inv q with ⟨g1, _⟩ | ⟨rfl, _, rfl⟩
        · exact absurd g1 nb
        · obtain ⟨e2, _⟩ := hok' b _ (un.frzs b _ _ q)
          rw [ha] at e
          cases e
          exact e2
    have grown : ∀ p ∈ cs, ∃ more : Array Value, s'.heap.get? p.2 = some { cls := .none, data := .fields more } := fun p hp => by
      obtain ⟨more, z⟩ := un.tbls p.2 #[] (hH p hp)
      exact ⟨_, hok' p.2 _ z⟩
    refine ⟨rfl, ⟨fun b o e => ?_, fun b o e => ?_⟩, os, bare⟩
    · by_cases hb : b ∈ T
      · obtain ⟨p, hp, rfl⟩ := tOut b hb
        obtain ⟨more, hm⟩ := grown p hp
        rw [hT p hp] at e
        cases e
        exact .inr (.inl ⟨((C p hp).tab (hT p hp)).isCodeTable, rfl, #[], more, rfl, by rw [Array.empty_append]; exact hm⟩)
      · exact .inl (key b o hb e)
    · by_cases hb : b ∈ T
      · obtain ⟨p, hp, rfl⟩ := tOut b hb
        obtain ⟨more, hm⟩ := grown p hp
        exact ⟨_, hm⟩
      · exact ⟨o, key b o hb e⟩
end
/-- what is known of the law's promise at the head's heap -/
def LawAtG (l : PySem.W.OpenLaw) (w : World) (K : PySem.W.Frag) (CX : CXT) (k n : Nat) (x : Str) (mg : Str → Option Value) (fa : Addr) (h : Heap) : Prop :=
  ∃ (fd : FuncData) (cs : List (Addr × Addr)) (sp : Sp), (∀ p ∈ cs, h.get? p.2 = some { cls := .none, data := .fields #[] }) ∧ (∀ p ∈ cs, K.lookup p.2 = none) ∧ (∀ p ∈ cs, PySem.W.CodeHd h p.1 p.2) ∧ (∀ (s : Shared) (u : Value), BindsTo s fd ⟨[u], []⟩ [(x, u)]) ∧
    (∀ (H : Hp) (a : Addr) (ns : List Int), ns.length ≤ n → (∀ p ∈ cs, H p.2 = some (.tbl #[])) → SqL K H a (ns.map V.int) → sp [.ref a] H (fun v _ => v = .bl true) fun _ _ _ => False) ∧
    ∀ base : Heap, K.In base → base.Ns mainGlobals mg → (∀ p ∈ cs, LamX.TabB base mg p.1 p.2) → FnG l.prog w K mg base CX k fa fd [x] sp
theorem walk_ofG {l : PySem.W.OpenLaw} {n k : Nat} {q : Program} {loose : List Str} {XP : (Str → Option Value) → Heap → Prop} {YP : World → Heap → Prop} {d : DefRec} {CX : World → CXT} {x : Str}
    (hn : l.most = some n) (hn2 : n ≤ sizeLine) (hdf : d.params.defaults = []) (hr : Room k callerA)
    (F : ∀ (w : World) (mg : Str → Option Value) (fa : Addr) (h : Heap), YP w h → h.Ns mainGlobals mg → mg d.name = some (.ref fa) → ∃ K : PySem.W.Frag, K.In h ∧ LawAtG l w K (CX w) k n x mg fa h)
    (hCX : ∀ (w : World) (H : Hp) (s : Shared) (e : Value) (s' : Shared), CX w [] H s (fun _ _ _ => False) e s' → False) :
    PySem.W.WalkO q loose XP YP l.row.toRowW d [] (fun f vs => PySem.call f vs) := by
  refine Att.attach_callB hn hdf fun w s₀ s₁ mg mb fa o pm cd doc a vs ns G Y ho hd hcd hmg hobj hints hlen hbits hg => ?_
  obtain ⟨K, KX, fd, cs, sp, hT, nT, C, hb, hsp, hF⟩ := F w mg fa _ Y G.T.g hmg
  exact law_callG KX G.T.g G.T.b G.T.builtins G.T.nolimit hg hT nT C G.T.bmain hobj hints (Nat.le_trans hlen hn2) hr hF hb (fun H hH hS => hsp H a ns hlen hH hS) fun H e s' => hCX w H s₁ e s'
end TCX
/-! repr(x) by an own __repr__; a dict == {}. -/
namespace TCX
open PySem PySem.Spec PyProof.Rows L2 TCA
section
variable {X : Cx} {CX : CXT} {n : Nat} {f C : Addr} {fd : FuncData} {ps : List Str} {sp : Sp} {E : XK}
theorem call_reprO (F : FnOk X.prog X.w X.K X.mg X.base CX n f fd ps sp) (hs : PySem.W.findIn X.K (.ref C) "__repr__" = some (some (.ref f))) (hf : PySem.W.isFn X.K (.ref f) = true) (hb : Binds X.K fd ps []) (hx : Passes CX X E)
    (hr : Room (n + 1) X.A) : CallR X (.builtin "repr") (rStrO C sp E) := by
  intro pins s σ H xs us Q I r hq
  obtain ⟨a, dx, fs, rfl, ha, q⟩ := hq
  obtain ⟨u, rfl, rx⟩ : ∃ u, us = [u] ∧ RelV (.ref a) u := by
    cases r with
    | cons r rr => cases rr; exact ⟨_, rfl, r⟩
  cases (show u = Value.ref a from rx)
  obtain ⟨mA, J, _⟩ := ins_get I.hok ha
  obtain ⟨od, J, _⟩ := J.look
  have hr2 : Room n X.A.in1 := hr.in1
  have hu : X.A.in1.units < cLine := Nat.lt_of_succ_lt (hu_of hr2)
  have KI := I.kIn
  refine Calls.call_function_entry PySem.F.kind_repr PySem.F.plain_repr PySem.F.entry_repr (PySem.F.args_repr1 _) ?_
  unfold Builtin.«repr»
  refine wpAny_bind (m := oneArg "repr" _) (wpAny_pure (wpAny_bind (wpAny_cRoomFor hu (wpAny_bind (wpAny_bind (J.type.here ((PySem.W.looks_findIn KI hs).here ?_)))))))
  show wpAny _ _ (if (some (Value.ref f)).isNone = true then _ else _) _ _ _
  rw [if_neg (by simp)]
  refine wpAny_bind (m := callSpecialIfBound? (.ref a) (Str.ofString "__repr__") _) (PySem.W.ifBound_K KI J hs hf ?_)
  refine wpAny_mono (run_sub F hb hx (A := X.A.in1) ⟨hr2, rfl⟩ I (.cons rx .nil) q) (fun r s' hz => ?_) fun _ _ z => z
  obtain ⟨z, H', I', rz, x, rfl, qb⟩ := hz
  obtain ⟨t, e⟩ := (show ∃ t, r = Value.str x t from rz)
  cases e
  refine wpAny_bind (wpAny_isInstance (typeIs_str _ _ _) isSubtype_str_str ?_)
  first
    | exact wpAny_pure ⟨_, rfl, .str x, H', I', ⟨t, rfl⟩, qb⟩
    | (rw [if_pos rfl]; exact wpAny_pure ⟨_, rfl, .str x, H', I', ⟨t, rfl⟩, qb⟩)
    | (simp only [if_true]; exact wpAny_pure ⟨_, rfl, .str x, H', I', ⟨t, rfl⟩, qb⟩)
/-- a dict == {} -/
def rEqE : R2 := fun x y H Q => ∃ a b ks, x = .ref a ∧ y = .ref b ∧ H a = some (.dK ks) ∧ H b = some (.dK []) ∧ Q (.bl (decide (ks.length = 0))) H
theorem op_eqE (hu : X.A.units < cLine) : OpR X (compareOp .Eq) rEqE := by
  intro pins s σ H x y v u Q I rx ry h
  obtain ⟨a, b, ks, rfl, rfl, ea, eb, q⟩ := h
  obtain rfl : v = Value.ref a := rx
  obtain rfl : u = Value.ref b := ry
  obtain ⟨_, ya, va, ra, da⟩ := (show ObjOk X.prog X.w H s.heap a (.dK ks) from I.hok a _ ea)
  obtain ⟨_, yb, vb, rb, db⟩ := (show ObjOk X.prog X.w H s.heap b (.dK []) from I.hok b _ eb)
  have l1 : ks.length = va.length := ra.length
  have l2 : vb.length = 0 := by rw [← rb.length]; rfl
  refine PySem.W.keq_eq (knd := mixKind X.prog X.w) (r := true) ya yb da db hu (fun hl => ?_) (fin_bl I q ?_)
  · have e0 : ks = [] := List.length_eq_zero_iff.mp (by omega)
    subst e0
    exact hits_all rb ra (fun p hp => by cases hp)
  · by_cases h0 : ks.length = 0
    · have e : va.length = vb.length := by omega
      simp [h0, e]
    · have e : ¬ va.length = vb.length := by omega
      simp [h0, e]
end
end TCX
namespace TC
open PySem PySem.Spec PyProof.Rows L2 TCA TCX
theorem mul_frac (q : Rat) (t b : Int) : Rat.divInt (q.num * t) ((q.den : Int) * b) = q * Rat.divInt t b := by
  have e := Rat.divInt_mul_divInt q.num t (d₁ := (q.den : Int)) (d₂ := b)
  rw [← e, Rat.num_divInt_den]
theorem low_mul {q : Rat} {t b : Int} (h : (q.den : Int) * b ≠ 0) : HO.tup [.int (TCM.lowL (q.num * t) ((q.den : Int) * b)).1, .int (TCM.lowL (q.num * t) ((q.den : Int) * b)).2] = fraV (q * Rat.divInt t b) := by
  rw [TCR.lowL_rat _ _ h, mul_frac]
  rfl
section
variable {P : Program} {w : World} {K : PySem.W.Frag} {mg : Str → Option Value} {base : Heap} {f : Addr} {fd : FuncData} {C fI fQ : Addr}
/-! ### _law_by -/
def spBy : Sp := fun vs H Q _ => ∃ (d : Addr) (ks : List Int) (g : Int → Rat) (t b : Int) (A : Nat), vs = [.ref d, .int t, .int b] ∧ DictAt H d ks g ∧ (∀ r, TCR.Sz A (g r)) ∧ b ≠ 0 ∧ t.natAbs < 2 ^ A ∧ b.natAbs < 2 ^ A ∧ 0 < A ∧ A ≤ 4000 ∧ ks.length ≤ 60 ∧
  ∀ d' ks' H', Same H H' → H d' = none → DictAt H' d' ks' (fun r => g r * Rat.divInt t b) → Clear ks' (fun r => g r * Rat.divInt t b) → ks'.length ≤ ks.length → (∀ r ∈ ks', r ∈ ks) → Q (.ref d') H'
theorem scBy : FnScope ["_law_one", "_law_up", "_law_under", "_law_found", "_law_r"] ["_law_one", "_law_up", "_law_under"] (defScope sBy) := ⟨rfl, rfl, rfl, by decide +kernel, rfl, by decide +kernel, by decide +kernel⟩
theorem ok_by {fL fC : Addr} {fdL fdC : FuncData} (F : FnP K "_law_by" sBy f fd) (GL : FnOk P w K mg base CX0 1 fL fdL ["_law_up", "_law_under"] spLowL) (bL : L2.Binds K fdL ["_law_up", "_law_under"] []) (kL : PySem.W.keepIn K (.ref fL) = true) (gL : mg "_law_low" = some (.ref fL))
    (GC : FnOk P w K mg base CX0 1 fC fdC ["_law_some"] spCleared) (bC : L2.Binds K fdC ["_law_some"] []) (kC : PySem.W.keepIn K (.ref fC) = true) (gC : mg "_law_cleared" = some (.ref fC)) : FnOk P w K mg base CX0 2 f fd ["_law_one", "_law_up", "_law_under"] spBy := by
  refine F.ok scBy (fun vs H Q E h => ?_) (fun cdv Ar outer s H vs Q E hr h => ?_)
  · obtain ⟨d, ks, g, t, b, A, rfl, _⟩ := h
    rfl
  · obtain ⟨d, ks, g, t, b, A, rfl, hd, zg, hb0, zt, zb, A0, A9, len, q⟩ := h
    have hu := hu_of hr
    refine ⟨_, PSs.nox (pss_cons (ps_set (i := 3) scBy.nd rfl (.inl rfl) pe_dnewK)
      (pss_cons (ps_lock (ps_for PassesOwn.never rfl (pi_keys (pv 0)) (pg_name (i := 4) scBy.nd rfl (.inl rfl))
        (pss_one (ps_dput hu (pv 3) (pv 4) (pe_call GL hr (by rfl) gL kL bL .nil pass0 (pa_cons (pe_op op_mulW (pe_ix ix_tup (pe_dget hu (pv 0) (pv 4) (fun _ _ => rfl)) pe_int (fun _ _ => rfl)) (pv 1)) (pa_cons (pe_op op_mulW (pe_ix ix_tup (pe_dget hu (pv 0) (pv 4) (fun _ _ => rfl)) pe_int (fun _ _ => rfl)) (pv 2)) pa_nil))) rfl))))
      (pss_one (ps_ret (pe_call GC hr (by rfl) gC kC bC .nil pass0 (pa_cons (pv 3) pa_nil)))))), ?_⟩
    obtain ⟨kv2, b1, b2, b3, b4, b5⟩ := id hd
    intro p hp
    have smp := same_upd (o := .dK []) hp
    have npd : p ≠ d := (ne_of_none b1 hp).symm
    refine ⟨d, .dK kv2, smp _ _ b1, trivial, fun od => ?_⟩
    refine ⟨_, rfl, d, od, rfl, .inl ⟨kv2, upd_same, ?_⟩⟩
    have nud : ∀ {u : Addr} {q : Rat}, H u = some (fraV q) → u ≠ d := fun {u q} hu z => by
      rw [z, b1] at hu
      cases hu
    refine for_it (walk_keys (d := d) (o := od) (kvs := kv2)) (fun i σ H' => ∃ (v4 : Option V) (ks' : List Int), σ = [some (.ref d), some (.int t), some (.int b), some (.ref p), v4] ∧ H' d = some (.frz od (.dK kv2)) ∧ (∀ b o, H b = some o → b ≠ d → H' b = some o) ∧
        DictAt H' p ks' (fun r => if r ∈ ks.take i then g r * Rat.divInt t b else 0) ∧ ks'.length ≤ i ∧ (∀ r ∈ ks', r ∈ ks))
      ⟨none, [], rfl, upd_same, fun b o e hb => by rw [upd_ne hb]; exact smp _ _ e, ⟨[], by rw [upd_ne npd, upd_same], rfl, (fun r hr => by cases hr), List.nodup_nil, fun r _ => by simp⟩, Nat.le_refl _, (fun r hr => by cases hr)⟩ (fun i σ H' _ hP => ?_) (fun i x σ H' H2 hi hP hy => ?_) (fun σ H' hP => ?_)
    · obtain ⟨_, _, _, z, _⟩ := hP
      exact z
    · obtain ⟨rfl, k, v, hkv, rfl⟩ := hy
      obtain ⟨v4, ks', rfl, hfz, keep, hp', l', sub⟩ := hP
      obtain ⟨r, hr', rfl⟩ := key_at b2 hkv
      have rk : r ∈ ks := List.mem_of_getElem? hr'
      have il : i < ks.length := (List.getElem?_eq_some_iff.mp hr').1
      obtain ⟨u, ua, ub⟩ := b3 r rk
      have bu := keep _ _ ub (nud ub)
      have dne : ((g r).den : Int) * b ≠ 0 := Int.mul_ne_zero (by have e1 := (g r).den_pos; omega) hb0
      have zn : (g r).num.natAbs < 2 ^ A := (zg r).1
      have zd : ((g r).den : Int).natAbs < 2 ^ A := by rw [Int.natAbs_natCast]; exact (zg r).2
      refine ⟨_, rfl, _, rfl, d, _, rfl, dget_rd (.inr ⟨od, hfz⟩) ua, u, _, 0, _, rfl, rfl, SqT.of bu, atI_nat (j := 0) rfl, _, rfl, (g r).num, t, rfl, rfl, cmulw zn zt A0 A0 (by omega), _, rfl, _, rfl, d, _, rfl, dget_rd (.inr ⟨od, hfz⟩) ua, u, _, 1, _, rfl, rfl, SqT.of bu, atI_nat (j := 1) rfl, _, rfl, ((g r).den : Int), b, rfl, rfl, cmulw zd zb A0 A0 (by omega), ?_⟩
      refine ⟨_, _, A + A, rfl, dne, wide_lt zd zb, by omega, by omega, fun c2 hc2 => ?_⟩
      rw [low_mul dne]
      have sm2 := same_upd (o := fraV (g r * Rat.divInt t b)) hc2
      obtain ⟨kvq, q1, q2, q3, q4, q5⟩ := hp'.same sm2
      refine ⟨_, rfl, _, rfl, p, _, rfl, DPut.k (k := Sum.inl r) q1 (small1000 (by rw [len_keys q2]; omega)), ?_⟩
      refine ⟨_, addKey ks' r, rfl, by rw [upd_ne npd.symm]; exact sm2 _ _ hfz, fun b o e hb => ?_, ?_, Nat.le_trans (addKey_len ks' r) (by omega), fun s hs => ?_⟩
      · rw [upd_ne (ne_of_none e hp)]
        exact sm2 _ _ (keep b o e hb)
      · refine (put_ok (r := r) (q := g r * Rat.divInt t b) q1 q2 q3 q4 q5 upd_same).imp fun s => ?_
        unfold setF
        by_cases es : s = r
        · rw [if_pos es, es, if_pos ((mem_take_succ hr').mpr (.inr rfl))]
        · rw [if_neg es]
          have em : (s ∈ ks.take (i + 1)) ↔ s ∈ ks.take i := ⟨fun m => ((mem_take_succ hr').mp m).resolve_right es, fun m => (mem_take_succ hr').mpr (.inl m)⟩
          show (if s ∈ ks.take i then g s * Rat.divInt t b else 0) = (if s ∈ ks.take (i + 1) then g s * Rat.divInt t b else 0)
          by_cases m : s ∈ ks.take i
          · rw [if_pos m, if_pos (em.mpr m)]
          · rw [if_neg m, if_neg fun z => m (em.mp z)]
      · rcases mem_addKey.mp hs with m | m
        · exact sub s m
        · rw [m]
          exact rk
    · obtain ⟨v4, ks', rfl, hfz, keep, hp', l', sub⟩ := hP
      have lk := len_keys b2
      refine ⟨hfz, ?_⟩
      have smf : Same H (upd H' d (.dK kv2)) := fun b o e => by
        by_cases hb : b = d
        · rw [hb, upd_same]
          rw [hb, b1] at e
          exact e
        · rw [upd_ne hb]
          exact keep b o e hb
      have hpf : DictAt (upd H' d (.dK kv2)) p ks' (fun r => g r * Rat.divInt t b) := by
        obtain ⟨kvq, f1, f2, f3, f4, f5⟩ := hp'
        have eq : ∀ r, (if r ∈ ks.take kv2.length then g r * Rat.divInt t b else 0) = g r * Rat.divInt t b := fun r => by
          rw [lk, List.take_length]
          by_cases m : r ∈ ks
          · rw [if_pos m]
          · rw [if_neg m, b5 r m, Rat.zero_mul]
        refine DictAt.imp ⟨kvq, by rw [upd_ne npd]; exact f1, f2, fun r hr => ?_, f4, f5⟩ eq
        obtain ⟨u2, c1, c2⟩ := f3 r hr
        refine ⟨u2, c1, ?_⟩
        rw [upd_ne fun z => by
          rw [z, hfz] at c2
          cases c2]
        exact c2
      refine ⟨_, rfl, p, ks', _, rfl, hpf, by omega, fun d' ks2 H2 sm2 hd' hD cl l2 sub2 => ?_⟩
      exact q d' ks2 H2 (smf.trans sm2) (smf.free hd') hD cl (by omega) fun r hr => sub r (sub2 r hr)
/-! ### _law_parts -/
def spParts : Sp := fun vs H Q _ => ∃ (d : Addr) (ks : List Int) (g : Int → Rat), vs = [.ref d] ∧ DictAt H d ks g ∧ Clear ks g ∧ ks.length ≤ 900 ∧
  ∀ p N H', Same H H' → H p = none → PartsL H' p N → TCR.Canon N → (∀ r, TCR.val N r = g r) → N.length = ks.length → Q (.ref p) H'
theorem scParts : FnScope ["_law_some", "_law_r"] ["_law_some"] (defScope sParts) := ⟨rfl, rfl, rfl, by decide +kernel, rfl, by decide +kernel, by decide +kernel⟩
theorem ok_parts (F : FnP K "_law_parts" sParts f fd) (gt : mg "tuple" = none) (gs : mg "sorted" = none) : FnOk P w K mg base CX0 1 f fd ["_law_some"] spParts := by
  refine F.ok scParts (fun vs H Q E h => ?_) (fun cdv Ar outer s H vs Q E hr h => ?_)
  · obtain ⟨d, ks, g, rfl, _⟩ := h
    rfl
  · obtain ⟨d, ks, g, rfl, hd, cl, len, q⟩ := h
    have hu := hu_of hr
    refine ⟨_, PSs.nox (pss_one (ps_ret (pe_callTy call_tuple_of (by rfl) gt (by decide +kernel) (pa_cons
      (pe_lc (own := [("_law_r", 1)]) (g := gName 1) (tt := tYes) (te := tOp (rCatT K) (tTup (tCons (tVar 1) tNil)) (tDGet (tVar 0) (tVar 1))) rfl scParts.nd (pi_list (pe_callB (call_sortedMany rfl) (by rfl) gs (by decide +kernel) (pa_cons (pv 0) pa_nil)))
        (blkOk_by (N := ["_law_some", "_law_r"]) (sc := defScope sParts) (by decide +kernel)) (fun _ _ _ _ _ => pg_name (i := 1) scParts.nd rfl (.inl rfl)) (fun _ _ _ _ _ => pts_nil)
        (fun _ _ _ _ _ => pe_op op_catT (pe_tup (pa_cons (pv 1) pa_nil)) (pe_dget hu (pv 0) (pv 1) (fun _ _ => rfl)))) pa_nil)))), ?_⟩
    obtain ⟨kvs, b1, b2, b3, b4, b5⟩ := id hd
    refine ⟨_, rfl, d, kvs, ks, rfl, .inl b1, b2, by omega, fun ns l hperm hsort hl => ?_⟩
    have sml := same_upd (o := .lst (ns.map V.int)) hl
    have ndn : ns.Nodup := hperm.nodup_iff.mpr b4
    refine ⟨l, rfl, ⟨_, SqL.of upd_same⟩, fun D hD => lc_list (xs := ns.map V.int) (fun i H' => Same (upd H l (.lst (ns.map V.int))) H' ∧ ∃ ws, H' D = some (.lst (ws.map V.ref)) ∧ Refs H' ws (TCR.kept g (ns.take i))) ?_ (fun i H' _ hP => SqL.of (hP.1 _ _ upd_same)) (fun i x H' hx hP => ?_) (fun H' hP => ?_)⟩
    · exact ⟨same_upd hD, [], upd_same, trivial⟩
    · obtain ⟨sm, ws, hD', hR⟩ := hP
      rw [List.getElem?_map] at hx
      obtain ⟨r, hr', rfl⟩ : ∃ r, ns[i]? = some r ∧ V.int r = x := by
        cases e : ns[i]? with
        | none =>
          rw [e] at hx
          cases hx
        | some p =>
          rw [e] at hx
          exact ⟨p, rfl, Option.some.inj hx⟩
      have rk : r ∈ ks := hperm.mem_iff.mp (List.mem_of_getElem? hr')
      have gz := cl r rk
      obtain ⟨u, ua, ub⟩ := b3 r rk
      refine ⟨rfl, ?_⟩
      refine ⟨_, rfl, by show 1 ≤ sizeLine; decide, fun c hc => ?_⟩
      have smc := same_upd (o := .tup [.int r]) hc
      have smT := sml.trans (sm.trans smc)
      refine ⟨_, rfl, _, rfl, d, _, rfl, dget_in (smT _ _ b1) ua, ?_⟩
      refine ⟨c, u, _, _, rfl, rfl, SqT.of upd_same, SqT.of (smT _ _ ub), (by intro z; cases z), (by show 3 ≤ sizeLine; decide), (fun z => by cases z), fun _ c2 hc2 => ?_⟩
      have smc2 := same_upd (o := parV (r, g r)) hc2
      have hDc := smc2 _ _ (smc _ _ hD')
      have wl : ws.length ≤ 900 := by
        have z1 := hR.len
        have z2 := TCR.kept_len g (ns.take i)
        have z3 : (ns.take i).length ≤ ns.length := by
          rw [List.length_take]
          exact Nat.min_le_right ..
        have z4 := hperm.length_eq
        omega
      have hl' : ∀ x, (upd (upd H' c (.tup [.int r])) c2 (parV (r, g r))) D ≠ some (parV x) := fun x e => by
        rw [hDc] at e
        cases e
      refine ⟨_, hDc, small1000 (by rw [List.length_map]; omega), same_at ((sm.trans smc).trans smc2) hD, ws ++ [c2], ?_, ?_⟩
      · rw [upd_same, List.map_append]
        rfl
      · have et : ns.take (i + 1) = ns.take i ++ [r] := by
          rw [List.take_add_one, hr']
          rfl
        rw [et, TCR.kept_snoc, if_pos gz]
        exact Refs.upd hl' (Refs.snoc upd_same ((hR.same smc).same smc2))
    · obtain ⟨sm, ws, hD', hR⟩ := hP
      rw [List.length_map, List.take_length] at hR
      refine ⟨D, _, rfl, .inl ⟨SqL.of hD', fun p hp => ?_⟩⟩
      have smp := same_upd (o := .tup (ws.map V.ref)) hp
      have smT := sml.trans sm
      refine q p (TCR.kept g ns) _ (smT.trans smp) (smT.free hp) ⟨ws, upd_same, hR.same smp⟩ (TCR.canon_kept g ndn hsort) (fun r => TCR.val_kept g r fun z => b5 r fun m => z (hperm.mem_iff.mpr m)) ?_
      unfold TCR.kept
      rw [List.length_map, List.filter_eq_self.mpr fun r hr => decide_eq_true (cl r (hperm.mem_iff.mp hr)), hperm.length_eq]

end
end TC
namespace TCX
set_option exponentiation.threshold 20000
theorem fact_lt2 : ∀ n, n < 42 → factN n < 2 ^ 166 := by decide +kernel
theorem prodF_lt2 : ∀ {l : List Nat}, (∀ n ∈ l, n < 42) → prodF l < 2 ^ (166 * l.length + 1)
  | [], _ => by decide
  | n :: l, h => by
    have h1 := prodF_lt2 (l := l) fun m hm => h m (List.mem_cons_of_mem _ hm)
    show factN n * prodF l < 2 ^ (166 * (l.length + 1) + 1)
    rw [show 166 * (l.length + 1) + 1 = 166 + (166 * l.length + 1) by omega, Nat.pow_add]
    exact Nat.mul_lt_mul'' (fact_lt2 n (h n (by simp))) h1
theorem comK_lt2 {A B C : Nat} {D E : Int} (h1 : A < 42) (h2 : B + D < 42) (h3 : C + E < 42) : comK A B C D E < 2 ^ 498 := by
  unfold comK
  have a1 := fact_lt2 A h1
  have a2 := fact_lt2 (B + D).toNat (by omega)
  have a3 := fact_lt2 (C + E).toNat (by omega)
  have z := Nat.mul_lt_mul'' (Nat.mul_lt_mul'' a1 a2) a3
  rw [← Nat.pow_add, ← Nat.pow_add] at z
  exact z
end TCX
namespace TC
set_option exponentiation.threshold 20000
open PySem PySem.Spec PyProof.Rows L2 TCA TCX
/-- small enough to be shown -/
structure SmallP (x : Part) : Prop where
  r : x.1.natAbs < 2 ^ 1900
  n : x.2.num.natAbs < 2 ^ 1900
  d : x.2.den < 2 ^ 1900
theorem log1920 {i : Int} (h : i.natAbs < 2 ^ 1900) : i.natAbs.log2 < 1920 := Nat.lt_of_lt_of_le (PySem.Flt.log2_lt_of (show 0 < 1900 by decide) h) (by decide)
theorem w1901 {i : Int} (h : i.natAbs < 2 ^ 1900) : PyData.weight (.int i) ≤ 1901 := by
  show (if i == 0 then 0 else i.natAbs.log2 + 1) ≤ 1901
  have := PySem.Flt.log2_lt_of (show 0 < 1900 by decide) h
  split <;> omega
theorem shown700 {i : Int} (h : i.natAbs < 2 ^ 1900) : (PyData.shown (.int i)).length ≤ 701 := by
  have e := int_text_length_le10 (a := i) (k := 700) (by decide) (Nat.lt_of_lt_of_le h (by decide +kernel))
  show (Str.ofString (toString i)).length ≤ 701
  rw [PySem.ofString_length]
  exact e
theorem shows_parts {L : List Part} (hl : L.length ≤ 1) (h : ∀ x ∈ L, SmallP x) : Shows (toD L) := by
  match L, hl with
  | [], _ => exact ⟨rfl, rfl, by decide, by show (PyData.shown (.tuple [])).length ≤ sizeLine; decide +kernel⟩
  | [x], _ =>
    have hx := h x (by simp)
    have hd : ((x.2.den : Nat) : Int).natAbs < 2 ^ 1900 := by rw [Int.natAbs_natCast]; exact hx.d
    have s1 := shown700 hx.r
    have s2 := shown700 hx.n
    have s3 := shown700 hd
    have w1 := w1901 hx.r
    have w2 := w1901 hx.n
    have w3 := w1901 hd
    have sl : (toD [x]).leavesShort 701 = true := by
      simp only [toD, parD, List.map_cons, List.map_nil, PyData.leavesShort, PyData.leavesShortAll, Bool.and_true, Bool.and_eq_true, decide_eq_true_eq]
      exact ⟨s1, s2, s3⟩
    have wl : (toD [x]).weight ≤ 6000 := by
      simp only [toD, parD, List.map_cons, List.map_nil, PyData.weight, PyData.weightAll] at w1 w2 w3 ⊢
      omega
    refine ⟨?_, ?_, ?_, ?_⟩
    · simp only [toD, parD, List.map_cons, List.map_nil, PyData.showable, PyData.showableAll, Bool.and_true, Bool.and_eq_true, decide_eq_true_eq]
      exact ⟨log1920 hx.r, log1920 hx.n, log1920 hd⟩
    · rfl
    · show (2 : Nat) ≤ 60
      decide
    · have z := PyData.shown_le 701 (by decide) (toD [x]) sl
      rw [sizeLine_eq]
      omega
theorem join_fit {a u b v c w : Int} (h1 : PairP a u) (h2 : PairP b v) (h3 : PairP c w) : ∃ D : Nat, 0 < D ∧ D < 2 ^ 1500 ∧ Fit D 1667 200 (joinL a u b v c w) ∧ (joinL a u b v c w).length ≤ 1 := by
  unfold joinL
  by_cases J : JoinP a b c u v w
  · rw [if_pos J]
    have la := jAb_lt h1 h2 h3
    have lb := jBe_lt h1 h2 h3
    have T := tmp_of h1 h2 h3 J
    have l42 : ∀ n ∈ jAb a u b v c w, n < 42 := by
      obtain ⟨a0, a1, a2, a3, a4⟩ := h1
      obtain ⟨b0, b1, b2, b3, b4⟩ := h2
      obtain ⟨c0, c1, c2, c3, c4⟩ := h3
      intro n hn
      unfold jAb at hn
      simp only [List.mem_cons, List.not_mem_nil, or_false] at hn
      omega
    have cl : jCom a u b v c < 2 ^ 498 := by
      obtain ⟨a0, a1, a2, a3, a4⟩ := h1
      obtain ⟨b0, b1, b2, b3, b4⟩ := h2
      obtain ⟨c0, c1, c2, c3, c4⟩ := h3
      obtain ⟨k1, k2, k3, k4⟩ := canB_iff.mp J.1
      have k5 := J.2
      unfold jCom
      exact comK_lt2 (by unfold jA; omega) (by unfold jB jD; omega) (by unfold jC jE; omega)
    have A41 : jA a b c < 63 := by have := T.lA; have := T.s1; omega
    have Wl : (jSum a u b v c).natAbs < 2 ^ 504 := by
      have z := sumK_le (f := jT a u b v c) (tmK_le _ _ _ _ _) (jA a b c + 1)
      refine Nat.lt_of_le_of_lt z ?_
      have y : jA a b c + 1 < 2 ^ 6 := by omega
      have x := Nat.mul_lt_mul'' y cl
      rw [← Nat.pow_add] at x
      exact x
    have tl : topE (jAb a u b v c w) (jBe a b c) < 2 ^ 1163 := Nat.lt_of_le_of_lt (topE_le fun n hn => by have := la n hn; omega) (prodF_lt2 l42)
    have bl : botE (jAb a u b v c w) (jBe a b c) < 2 ^ 1500 := botE_lt h1 h2 h3
    have rl := rootE_lt (jAb a u b v c w) (jBe a b c)
    have bp := botE_pos (jAb a u b v c w) (jBe a b c)
    generalize topE (jAb a u b v c w) (jBe a b c) = t at tl ⊢
    generalize botE (jAb a u b v c w) (jBe a b c) = bo at bl bp ⊢
    generalize jSum a u b v c = W at Wl ⊢
    have rp := (rootE_sqF (jAb a u b v c w) (jBe a b c)).pos
    generalize rootE (jAb a u b v c w) (jBe a b c) = r at rl rp ⊢
    rw [Rat.divInt_mul_divInt, Int.one_mul]
    refine ⟨bo, bp, bl, ?_, by unfold oneQ; split <;> simp⟩
    have can := canon_oneQ ((r : Nat) : Int) (Rat.divInt (W * (t : Int)) (bo : Int))
    have lo := (TCM.low_abs (W * (t : Int)) (bo : Int) (by omega)).1
    rw [TCR.low_rat (W * (t : Int)) (bo : Int) (by omega)] at lo
    have mem : ∀ x ∈ oneQ ((r : Nat) : Int) (Rat.divInt (W * (t : Int)) (bo : Int)), x = (((r : Nat) : Int), Rat.divInt (W * (t : Int)) (bo : Int)) := fun x hx => by
      unfold oneQ at hx
      split at hx
      · cases hx
      · exact List.mem_singleton.mp hx
    refine ⟨can, fun x hx => ?_, fun x hx => ?_, fun x hx => ?_⟩
    · rw [mem x hx]
      exact den_divInt bp
    · rw [mem x hx]
      exact Nat.lt_of_le_of_lt lo (wide_lt Wl (nat_bits tl))
    · rw [mem x hx]
      show 0 < ((r : Nat) : Int) ∧ ((r : Nat) : Int).natAbs < 2 ^ 200
      exact ⟨by omega, by rw [Int.natAbs_natCast]; exact rl⟩
  · rw [if_neg J]
    exact ⟨1, by decide, by decide, ⟨TCR.canon_nil, (fun x hx => by cases hx), (fun x hx => by cases hx), (fun x hx => by cases hx)⟩, Nat.zero_le _⟩
theorem small_join {a u b v c w : Int} (h1 : PairP a u) (h2 : PairP b v) (h3 : PairP c w) : (joinL a u b v c w).length ≤ 1 ∧ ∀ x ∈ joinL a u b v c w, SmallP x := by
  obtain ⟨D, D0, D1, F, l⟩ := join_fit h1 h2 h3
  refine ⟨l, fun x hx => ⟨?_, ?_, ?_⟩⟩
  · exact Nat.lt_of_lt_of_le (F.pos x hx).2 (Nat.pow_le_pow_right (by decide) (by decide))
  · exact Nat.lt_of_lt_of_le (F.num x hx) (Nat.pow_le_pow_right (by decide) (by decide))
  · exact Nat.lt_of_le_of_lt (Nat.le_of_dvd D0 (F.den x hx)) (Nat.lt_of_lt_of_le D1 (Nat.pow_le_pow_right (by decide) (by decide)))
section
variable {P : Program} {w : World} {K : PySem.W.Frag} {mg : Str → Option Value} {base : Heap} {f : Addr} {fd : FuncData} {C fI fQ : Addr}
/-! ### _law_is -/
def spIs (C : Addr) : Sp := fun vs H Q _ => ∃ (x d : Addr) (L : List Part) (ks : List Int), vs = [.ref x, .ref d] ∧ NumAt C H x L ∧ DictAt H d ks (TCR.val L) ∧ Clear ks (TCR.val L) ∧ ks.length ≤ 900 ∧ TCR.Canon L ∧ L.length ≤ 1 ∧ (∀ y ∈ L, SmallP y) ∧ ∀ H', Same H H' → Q (.bl true) H'
abbrev nIs : List Str := ["_law_number", "_law_due"]
end
end TC
namespace TC
set_option exponentiation.threshold 20000
open PySem PySem.Spec PyProof.Rows L2 TCA TCX
/-! ### the root of a small number, both ways -/
def sqfB (i : Nat) : Bool := (List.range 50).all fun d => decide (d * d ∣ i → d = 1)
theorem sqf_of {i : Nat} (h : sqfB i = true) (h1 : 0 < i) (h2 : i < 50) : SqF i := fun d hd => by
  have le : d * d ≤ i := Nat.le_of_dvd h1 hd
  have d50 : d < 50 := by
    rcases Nat.lt_or_ge d 50 with z | z
    · exact z
    · have := Nat.mul_le_mul z z
      omega
  exact of_decide_eq_true (List.all_eq_true.mp h d (List.mem_range.mpr d50)) hd
def sqO (n : Nat) : Nat := (TCM.sqOut (n : Int)).1.toNat
def sqI (n : Nat) : Nat := (TCM.sqOut (n : Int)).2.1.toNat
theorem sq42 : ∀ n : Nat, n < 42 → 0 < n → TCM.sqOut (n : Int) = ((sqO n : Int), (sqI n : Int), 1) ∧ sqO n * sqO n * sqI n = n ∧ 0 < sqO n ∧ sqO n < 8 ∧ 0 < sqI n ∧ sqI n < 42 ∧ sqfB (sqI n) = true := by decide +kernel
theorem sq_both {n sq fr : Nat} (h : n < 42) (h0 : 0 < n) (e : 1 * n = sq * sq * fr) (hf : SqF fr) : sq = sqO n ∧ fr = sqI n := by
  obtain ⟨_, e1, o0, _, i0, i1, hb⟩ := sq42 n h h0
  have e2 : sqO n * sqO n * sqI n = sq * sq * fr := by rw [e1, ← e, Nat.one_mul]
  obtain ⟨a, b⟩ := sq_uniq o0 (sqf_of hb i0 (by omega)) hf e2
  exact ⟨a.symm, b.symm⟩
theorem rootOk42 {n : Nat} (h : n < 42) (h0 : 0 < n) : RootOk (n : Int) := by
  obtain ⟨e, _, o0, o1, _, _, _⟩ := sq42 n h h0
  refine ⟨by omega, by omega, ?_, ?_, ?_⟩ <;> rw [e] <;> dsimp only <;> omega
/-- what a number is multiplied by -/
def sgT (a b w : Int) : Int := if ((a - b - w) / 2) % 2 = 1 then -1 else 1
def byT (c : Int) : Rat := Rat.divInt ((sqO (c + 1).toNat : Nat) : Int) (c + 1)
def threeL (a u b v c w : Int) : List Part := (joinL a u b v c (-w)).map fun x => (mulR x.1 ((sqI (c + 1).toNat : Nat) : Int), x.2 * (byT c * (sgT a b w : Int)) * ((gR x.1 ((sqI (c + 1).toNat : Nat) : Int) : Int) : Rat))
theorem sgT_ne (a b w : Int) : sgT a b w ≠ 0 := by
  unfold sgT
  split <;> decide
theorem mapL_val {L : List Part} {i : Int} {q : Rat} (hl : L.length ≤ 1) (u : Int) : TCR.val (L.map fun x => (mulR x.1 i, x.2 * q * ((gR x.1 i : Int) : Rat))) u = prodG (L.map (·.1)) [i] (TCR.val L) (fun s => if s = i then q else 0) u := by
  match L, hl with
  | [], _ => rfl
  | [x], _ =>
    show TCR.val [((mulR x.1 i, x.2 * q * ((gR x.1 i : Int) : Rat)) : Part)] u = prodG [x.1] [i] (TCR.val [x]) _ u
    rw [val_one]
    have e1 : TCR.val [x] x.1 = x.2 := by
      have := val_one x.1 x.1 x.2
      rw [if_pos rfl] at this
      exact this
    show _ = (((if mulR x.1 i = u then TCR.val [x] x.1 * (if i = i then q else 0) * ((gR x.1 i : Int) : Rat) else 0) + 0) + 0)
    rw [e1, if_pos rfl, Rat.add_zero, Rat.add_zero]
    by_cases h : u = mulR x.1 i
    · rw [if_pos h, if_pos h.symm]
    · rw [if_neg h, if_neg fun z => h z.symm]
theorem mapL_canon {L : List Part} {i : Int} {q : Rat} {D A R : Nat} (hl : L.length ≤ 1) (F : Fit D A R L) (hq : q ≠ 0) (hi : i ≠ 0) : TCR.Canon (L.map fun x => (mulR x.1 i, x.2 * q * ((gR x.1 i : Int) : Rat))) := by
  match L, hl with
  | [], _ => exact TCR.canon_nil
  | [x], _ =>
    refine TCR.canon_one ?_
    have h1 : x.2 ≠ 0 := F.can.nz x (by simp)
    have h2 : ((gR x.1 i : Int) : Rat) ≠ 0 := by
      intro z
      have z2 : gR x.1 i = 0 := by exact_mod_cast z
      unfold gR at z2
      have := Int.gcd_eq_zero_iff.mp (show Int.gcd x.1 i = 0 by omega)
      exact hi this.2
    intro z
    rcases Rat.mul_eq_zero.mp z with z | z
    · rcases Rat.mul_eq_zero.mp z with z | z
      · exact h1 z
      · exact hq z
    · exact h2 z
theorem mapL_small {L : List Part} {i : Int} {t b : Int} {D : Nat} (hl : L.length ≤ 1) (F : Fit D 1667 200 L) (D0 : 0 < D) (D1 : D < 2 ^ 1500) (hb : 0 < b) (b1 : b.natAbs < 2 ^ 6) (ht : t.natAbs < 2 ^ 6) (hi : 0 < i) (i1 : i.natAbs < 2 ^ 6) :
    ∀ y ∈ L.map (fun x => ((mulR x.1 i, x.2 * Rat.divInt t b * ((gR x.1 i : Int) : Rat)) : Part)), SmallP y := by
  match L, hl with
  | [], _ => exact fun y hy => by cases hy
  | [x], _ =>
    intro y hy
    rw [List.mem_singleton.mp hy]
    obtain ⟨r0, r1⟩ := F.pos x (by simp)
    have nx := F.num x (by simp)
    have dx := F.den x (by simp)
    have g1 : (gR x.1 i).natAbs < 2 ^ 6 := by
      unfold gR
      rw [Int.natAbs_natCast]
      exact Nat.lt_of_le_of_lt (Nat.le_of_dvd (by omega) (Int.gcd_dvd_natAbs_right x.1 i)) i1
    have e : x.2 * Rat.divInt t b * ((gR x.1 i : Int) : Rat) = Rat.divInt (x.2.num * t * gR x.1 i) ((x.2.den : Int) * b) := by
      have z1 := mul_frac x.2 t b
      have z2 := mul_frac x.2 t b
      have z3 : Rat.divInt (x.2.num * t) ((x.2.den : Int) * b) * Rat.divInt (gR x.1 i) 1 = Rat.divInt (x.2.num * t * gR x.1 i) ((x.2.den : Int) * b * 1) := Rat.divInt_mul_divInt ..
      rw [Int.mul_one, z1] at z3
      rw [← z3]
      congr 1
      exact (Rat.num_divInt_den ((gR x.1 i : Int) : Rat)).symm
    have dp := x.2.den_pos
    have b0 : (x.2.den : Int) * b ≠ 0 := Int.mul_ne_zero (by omega) (by omega)
    have lo := TCM.low_abs (x.2.num * t * gR x.1 i) ((x.2.den : Int) * b) b0
    rw [TCR.low_rat _ _ b0, ← e] at lo
    have xd : (x.2.den : Int).natAbs < 2 ^ 1500 := by
      rw [Int.natAbs_natCast]
      exact Nat.lt_of_le_of_lt (Nat.le_of_dvd D0 dx) D1
    refine ⟨?_, ?_, ?_⟩
    · exact Nat.lt_of_lt_of_le (mulR_pos (R := 200) r0 hi r1 (Nat.lt_of_lt_of_le i1 (Nat.pow_le_pow_right (by decide) (by decide)))).2 (Nat.pow_le_pow_right (by decide) (by decide))
    · exact Nat.lt_of_le_of_lt lo.1 (Nat.lt_of_lt_of_le (wide_lt (wide_lt nx ht) g1) (Nat.pow_le_pow_right (by decide) (by decide)))
    · have z := Nat.lt_of_le_of_lt lo.2 (wide_lt xd b1)
      rw [Int.natAbs_natCast] at z
      exact Nat.lt_of_lt_of_le z (Nat.pow_le_pow_right (by decide) (by decide))
section
variable {a u b v c w : Int}
theorem byT_sg (a b w : Int) (c0 : 0 ≤ c) : byT c * (sgT a b w : Int) = Rat.divInt (sgT a b w * ((sqO (c + 1).toNat : Nat) : Int)) (c + 1) := by
  unfold byT
  have e : ((sgT a b w : Int) : Rat) = Rat.divInt (sgT a b w) 1 := (Rat.num_divInt_den ((sgT a b w : Int) : Rat)).symm
  rw [e, Rat.divInt_mul_divInt, Int.mul_one, Int.mul_comm]
theorem three_facts (h1 : PairP a u) (h2 : PairP b v) (h3 : PairP c w) : TCR.Canon (threeL a u b v c w) ∧ (threeL a u b v c w).length ≤ 1 ∧ (∀ y ∈ threeL a u b v c w, SmallP y) ∧
    ∀ r, TCR.val (threeL a u b v c w) r = prodG ((joinL a u b v c (-w)).map (·.1)) [((sqI (c + 1).toNat : Nat) : Int)] (TCR.val (joinL a u b v c (-w))) (fun s => if s = ((sqI (c + 1).toNat : Nat) : Int) then byT c * (sgT a b w : Int) else 0) r := by
  have c0 := h3.t0
  have c1 := h3.t1
  have h3' : PairP c (-w) := ⟨h3.t0, h3.t1, by have := h3.hi; omega, by have := h3.lo; omega, by have := h3.ev; omega⟩
  obtain ⟨D, D0, D1, F, l⟩ := join_fit h1 h2 h3'
  obtain ⟨_, e1, o0, o1, i0, i1, _⟩ := sq42 (c + 1).toNat (by omega) (by omega)
  have bs := byT_sg (c := c) a b w c0
  have sg0 := sgT_ne a b w
  have qne : byT c * (sgT a b w : Int) ≠ 0 := by
    rw [bs]
    exact divInt_ne (by omega) (Int.mul_ne_zero sg0 (by omega))
  refine ⟨mapL_canon l F qne (by omega), ?_, ?_, mapL_val l⟩
  · unfold threeL
    rw [List.length_map]
    exact l
  · unfold threeL
    rw [bs]
    refine mapL_small l F D0 D1 (by omega) ?_ ?_ (by omega) ?_
    · have : (c + 1).natAbs < 64 := by omega
      exact this
    · rw [Int.natAbs_mul, Int.natAbs_natCast]
      have : (sgT a b w).natAbs = 1 := by
        unfold sgT
        split <;> rfl
      rw [this, Nat.one_mul]
      have : sqO (c + 1).toNat < 64 := by omega
      exact this
    · rw [Int.natAbs_natCast]
      have : sqI (c + 1).toNat < 64 := by omega
      exact this
end
section
variable {P : Program} {w : World} {K : PySem.W.Frag} {mg : Str → Option Value} {base : Heap} {f : Addr} {fd : FuncData} {C fI fQ : Addr}
/-! ### three_number -/
def spThreeN (C : Addr) : Sp := fun vs H Q _ => ∃ (p1 p2 p3 : Addr) (a u b v c w : Int), vs = [.ref p1, .ref p2, .ref p3] ∧ H p1 = some (pairO (a, u)) ∧ H p2 = some (pairO (b, v)) ∧ H p3 = some (pairO (c, w)) ∧ PairP a u ∧ PairP b v ∧ PairP c w ∧
  ∀ x H', Same H H' → NumAt C H' x (threeL a u b v c w) → Q (.ref x) H'
abbrev nThreeN : List Str := ["one", "other", "third", "a", "u", "b", "v", "c", "w", "number"]
end
end TC
/-! isinstance of a kept exception and a tuple of classes; promises joined. -/
namespace TCX
open PySem PySem.Spec PyProof.Rows L2
section
variable {X : Cx}
def rIsVT (K : PySem.W.Frag) : List V → Hp → VK → Prop := fun xs H Q => ∃ (a D tp : Addr) (cs : List V) (us : List Value) (b : Bool), xs = [.ref a, .ref tp] ∧ H a = some (ExV (.ref D) none a) ∧ ExcC K D ∧ H tp = some (.tup cs) ∧ Paired ClsV cs us ∧ PySem.W.kitAny K (.ref D) us = some b ∧ Q (.bl b) H
theorem call_isVT : CallR X (.builtin "isinstance") (rIsVT X.K) := by
  intro pins s σ H xs us Q I r h
  obtain ⟨a, D, tp, cs, ws, b, rfl, hH, C, hT, k, e, q⟩ := h
  obtain ⟨u1, u2, rfl, r1, r2⟩ := vals2 r
  cases (show u2 = Value.ref tp from r2)
  cases (show u1 = Value.ref a from r1)
  obtain ⟨oe, J⟩ := inst_of I hH
  obtain ⟨_, its, rv, o, h1, h2, n, h3⟩ := (show ObjOk X.prog X.w H s.heap tp (.tup cs) from I.hok tp _ hT)
  have e3 := ClsV.all k rv
  subst e3
  obtain ⟨oc, od, dt, sl⟩ := o
  simp only at h2 h3
  subst h2 h3
  exact PySem.W.kia_tup (PySem.W.handS_kitx_exc C.hg C.hk C.hs C.hd C.ha C.hn C.ht C.hm) I.kIn J h1 e (fun z => nomatch z) fun tk => ⟨.bl b, H, I.tok tk, rfl, q⟩
end
section
variable {P : Program} {w : World} {K : PySem.W.Frag} {mg : Str → Option Value} {base : Heap} {k : Nat} {f : Addr} {fd : FuncData} {ps : List Str} {sp sq : Sp}
/-- a def that lets nothing out may be asked where something might -/
theorem lift0 (F : FnOk P w K mg base CX0 k f fd ps sp) : FnOk P w K mg base (L2.CX P w) k f fd ps sp := by
  refine ⟨F.len, fun A outer s H args us vs Q E hr he hb hv hs => codeAny_mono (F.run A outer s H args us vs Q E hr he hb hv hs) fun r s' hq => ?_⟩
  match r, hq with
  | .error u, hq => exact (show False from hq).elim
  | .ok (.ret u), hq => exact hq
  | .ok .next, hq => exact hq
  | .ok .brk, hq => exact hq
  | .ok .cont, hq => exact hq
/-- two promises of one def -/
theorem both {CX : CXT} (F : FnOk P w K mg base CX k f fd ps sp) (G : FnOk P w K mg base CX k f fd ps sq) : FnOk P w K mg base CX k f fd ps (fun vs H Q E => sp vs H Q E ∨ sq vs H Q E) := by
  refine ⟨fun vs H Q E h => h.elim (F.len vs H Q E) (G.len vs H Q E), fun A outer s H args us vs Q E hr he hb hv hs => ?_⟩
  rcases hs with h | h
  · exact F.run A outer s H args us vs Q E hr he hb hv h
  · exact G.run A outer s H args us vs Q E hr he hb hv h
end
end TCX
namespace TCX
open PySem PySem.Spec PyProof.Rows L2
section
variable {prog : Program} {w : World} {A : Around} {E : Value → Shared → Prop} {s : Shared} {t : Addr} {xs : Array (Int × Tok)}
/-- what a new tuple iterator leaves -/
theorem tup_kept {h' : Heap} (hk : ∀ b o, b ∉ [s.heap.objs.size] → (s.heap.push { cls := .type "tuple_iterator", data := .fields #[.ref t, .int 0 0] }).get? b = some o → h'.get? b = some o) :
    ∀ b o, s.heap.get? b = some o → h'.get? b = some o := fun b o e => by
  refine hk b o (fun hm => ?_) (Heap.get?_push_of_some _ e)
  have := Heap.lt_size e
  rw [List.mem_singleton.mp hm] at this
  exact Nat.lt_irrefl _ this
theorem tup_below (ht : s.heap.IsTuple t (intItems xs)) : t ≠ s.heap.objs.size ∧ ∀ b ∈ [s.heap.objs.size, t], b < (s.heap.push { cls := .type "tuple_iterator", data := .fields #[.ref t, .int 0 0] }).objs.size := by
  obtain ⟨_, e, _⟩ := ht
  have hlt := Heap.lt_size e
  refine ⟨Nat.ne_of_lt hlt, fun b hb => ?_⟩
  rw [Heap.size_push]
  rcases List.mem_cons.mp hb with z | z
  · omega
  · rw [List.mem_singleton.mp z]
    exact Nat.lt_succ_of_lt hlt
theorem sum_tup {Q : Value → Shared → Prop} (hh : A.handled = none) (ht : s.heap.IsTuple t (intItems xs))
    (h : ∀ h' tk t', (∀ b o, s.heap.get? b = some o → h'.get? b = some o) → Q (.int (preSum (numAt xs) xs.size) t') { s with heap := h', toks := tk }) :
    wpAny (model prog w) A (call (.builtin "sum") [.ref t]) Q E s := by
  obtain ⟨hne, hb⟩ := tup_below ht
  refine call_sum_walkG (wpAny_pyIter_tuple ht ?_)
  refine ⟨_, [_, t], [_], _, _, _, numAt xs, rfl, Walks.tuple (A := A.in1) hh _ t hne (intItems xs), ⟨⟨_, Heap.get?_push_size _ rfl, rfl, rfl⟩, ht.push _⟩, hb, (fun _ _ => intItems_at), fun h' tk t' hk => ?_⟩
  have := h h' tk t' (tup_kept hk)
  simpa [intItems] using this
theorem max_tup {Q : Value → Shared → Prop} (hh : A.handled = none) (ht : s.heap.IsTuple t (intItems xs)) (hp : 0 < xs.size)
    (h : ∀ v h' tk, (intItems xs)[argBest (fun i j => decide (numAt xs i > numAt xs j)) (xs.size - 1)]? = some v → (∀ b o, s.heap.get? b = some o → h'.get? b = some o) → Q v { s with heap := h', toks := tk }) :
    wpAny (model prog w) A (call (.builtin "max") [.ref t]) Q E s := by
  obtain ⟨hne, hb⟩ := tup_below ht
  refine call_max_walk (wpAny_pyIter_tuple ht ?_)
  refine ⟨_, [_, t], [_], _, _, _, _, rfl, Walks.tuple (A := A.in1) hh _ t hne (intItems xs), ⟨⟨_, Heap.get?_push_size _ rfl, rfl, rfl⟩, ht.push _⟩, hb, by simpa [intItems] using hp, CmpOf.ints_gt (numAt xs) (fun _ _ => intItems_at), fun v h' tk hP hk => ?_⟩
  exact h v h' tk (by simpa [intItems] using hP) (tup_kept hk)
end
section
variable {X : Cx}
/-- sum(t), max(t) of a tuple of whole numbers -/
def rSumT (K : PySem.W.Frag) : List V → Hp → VK → Prop := fun vs H Q => ∃ (a : Addr) (ns : List Int), vs = [V.ref a] ∧ SqT K H a (ns.map V.int) ∧ Q (.int ns.sum) H
def rMaxT (K : PySem.W.Frag) : List V → Hp → VK → Prop := fun vs H Q => ∃ (a : Addr) (ns : List Int), vs = [V.ref a] ∧ SqT K H a (ns.map V.int) ∧ 0 < ns.length ∧ ∀ m, m ∈ ns → (∀ y, y ∈ ns → y ≤ m) → Q (.int m) H
theorem cr_sumT (hc : X.calm = true) : CallR X (.builtin "sum") (rSumT X.K) := by
  intro pins s σ H vs us Q I r h
  obtain ⟨a, ns, rfl, hs, q⟩ := h
  obtain ⟨its, rv, ht, _⟩ := I.tuple hs
  rw [Vals.ref1 r]
  have hi := rv.ints
  obtain ⟨xs, e⟩ := hi.allInts.items
  have hn : numsOf (intItems xs).toList = ns := by rw [← e]; exact hi.numsOf
  rw [nums_intItems] at hn
  rw [e] at ht
  refine sum_tup (I.ok.hd hc) ht fun h' tk t' hk => ?_
  rw [preSum_eq, List.take_of_length_le (by simp), hn]
  exact ⟨.int _, H, I.kept hk, ⟨_, rfl⟩, q⟩
theorem cr_maxT (hc : X.calm = true) : CallR X (.builtin "max") (rMaxT X.K) := by
  intro pins s σ H vs us Q I r h
  obtain ⟨a, ns, rfl, hs, hne, q⟩ := h
  obtain ⟨its, rv, ht, _⟩ := I.tuple hs
  rw [Vals.ref1 r]
  have hi := rv.ints
  obtain ⟨xs, e⟩ := hi.allInts.items
  have hn : numsOf (intItems xs).toList = ns := by rw [← e]; exact hi.numsOf
  rw [nums_intItems] at hn
  subst hn
  rw [e] at ht
  have hsz : 0 < xs.size := by simpa using hne
  refine max_tup (I.ok.hd hc) ht hsz fun v h' tk hv hk => ?_
  obtain ⟨t, rfl⟩ := intItems_at hv
  obtain ⟨h1, h2⟩ := argBest_gt (numAt xs) (xs.size - 1)
  refine ⟨.int _, H, I.kept hk, ⟨_, rfl⟩, q _ ?_ fun y hy => ?_⟩
  · rw [numAt_eq]
    exact PySem.getD_mem (by rw [List.length_map, Array.length_toList]; omega)
  · obtain ⟨j, hj, rfl⟩ := mem_getD hy
    rw [List.length_map, Array.length_toList] at hj
    rw [← numAt_eq]
    exact h2 j (by omega)
end
end TCX
namespace TC
open PySem PySem.Spec PyProof.Rows L2 TCA TCX
def iv (ns : List Int) : HO := .tup (ns.map V.int)
/-- the four triangles of six sizes -/
def QuadT (H : Hp) (r : Addr) (a b c d e f : Int) : Prop := ∃ t1 t2 t3 t4, H r = some (.tup [.ref t1, .ref t2, .ref t3, .ref t4]) ∧ H t1 = some (iv [a, b, c]) ∧ H t2 = some (iv [a, e, f]) ∧ H t3 = some (iv [d, b, f]) ∧ H t4 = some (iv [d, e, c])
def Jn (a b c d e f : Int) : Bool := canB a b c && (canB a e f && (canB d b f && canB d e c))
def firstJ (a b c d e f : Int) : Option Nat := [canB a b c, canB a e f, canB d b f, canB d e c].findIdx? (!·)
theorem first_at : ∀ {L : List Bool} {i : Nat}, (L.take i).all id = true → L[i]? = some false → L.findIdx? (!·) = some i
  | [], i, _, e => by simp at e
  | b :: L, 0, _, e => by
    have : b = false := by simpa using e
    subst this
    rfl
  | b :: L, i + 1, h, e => by
    have hb : b = true ∧ (L.take i).all id = true := by simpa using h
    obtain ⟨rfl, h2⟩ := hb
    have z := first_at (L := L) (i := i) h2 (by simpa using e)
    rw [List.findIdx?_cons]
    simp [z]
theorem first_none {a b c d e f : Int} : firstJ a b c d e f = none ↔ Jn a b c d e f = true := by
  unfold firstJ Jn
  cases canB a b c <;> cases canB a e f <;> cases canB d b f <;> cases canB d e c <;> simp [List.findIdx?_cons]
section
variable {P : Program} {w : World} {K : PySem.W.Frag} {mg : Str → Option Value} {base : Heap} {f : Addr} {fd : FuncData}
/-! ### triangles_of -/
def spTri : Sp := fun vs H Q _ => ∃ (t : Addr) (a b c d e g : Int), vs = [.ref t] ∧ H t = some (iv [a, b, c, d, e, g]) ∧ ∀ r H', Same H H' → H r = none → QuadT H' r a b c d e g → Q (.ref r) H'
/-! ### first_not_joined -/
def spFirst : Sp := fun vs H Q _ => ∃ (r : Addr) (a b c d e g : Int), vs = [.ref r] ∧ QuadT H r a b c d e g ∧ (Jn a b c d e g = true → ∀ H', Same H H' → Q .non H') ∧ (∀ k : Nat, firstJ a b c d e g = some k → ∀ H', Same H H' → Q (.int (k : Int)) H')
end
end TC
namespace TC
open PySem PySem.Spec PyProof.Rows L2 TCA TCX
def quad (a b c d e f : Int) : List (List Int) := [[a, b, c], [a, e, f], [d, b, f], [d, e, c]]
def lows (a b c d e f : Int) : List Int := (quad a b c d e f).map fun l => l.sum / 2
def opps (a b c d e f : Int) : List Int := [(a + b + d + e) / 2, (b + c + e + f) / 2, (c + a + f + d) / 2]
def Srt (L M : List Int) : Prop := L.Perm M ∧ L.Pairwise (· ≤ ·)
theorem Srt.eq {L L' M : List Int} (h : Srt L M) (h' : Srt L' M) : L = L' := List.Perm.eq_of_pairwise (fun a b _ _ h1 h2 => Int.le_antisymm h1 h2) h.2 h'.2 (h.1.trans h'.1.symm)
/-- the pair of two rising tuples -/
def FormT (H : Hp) (r : Addr) (L1 L2 : List Int) : Prop := ∃ r1 r2, H r = some (.tup [.ref r1, .ref r2]) ∧ H r1 = some (iv L1) ∧ H r2 = some (iv L2)
theorem FormT.same {H H' : Hp} {r : Addr} {L1 L2 : List Int} (h : FormT H r L1 L2) (s : Same H H') : FormT H' r L1 L2 := by
  obtain ⟨r1, r2, a, b, c⟩ := h
  exact ⟨r1, r2, s _ _ a, s _ _ b, s _ _ c⟩
section
variable {P : Program} {w : World} {K : PySem.W.Frag} {mg : Str → Option Value} {base : Heap} {f : Addr} {fd : FuncData}
/-! ### form_of -/
def spForm : Sp := fun vs H Q _ => ∃ (t : Addr) (a b c d e g : Int), vs = [.ref t] ∧ H t = some (iv [a, b, c, d, e, g]) ∧ ∀ r L1 L2 H', Same H H' → H r = none → Srt L1 (lows a b c d e g) → Srt L2 (opps a b c d e g) → FormT H' r L1 L2 → Q (.ref r) H'
abbrev nForm : List Str := ["sizes", "a", "b", "c", "d", "e", "f", "triangles", "opposites", "triangle"]
end
end TC
namespace TCX
/-! the sum of joined numbers: one step up -/
/-- 1 / n!, 0 below 0 -/
def inv (n : Int) : Rat := if n < 0 then 0 else (((factN n.toNat : Nat) : Int) : Rat)⁻¹
theorem inv_step (n : Int) : inv (n - 1) = (n : Rat) * inv n := by
  unfold inv
  by_cases h : n < 0
  · rw [if_pos h, if_pos (by omega), Rat.mul_zero]
  · rw [if_neg h]
    by_cases h0 : n = 0
    · subst h0
      rw [if_pos (by decide)]
      grind
    · rw [if_neg (by omega)]
      obtain ⟨m, rfl⟩ : ∃ m : Nat, n = (m : Int) + 1 := ⟨(n - 1).toNat, by omega⟩
      rw [show ((m : Int) + 1 - 1).toNat = m by omega, show ((m : Int) + 1).toNat = m + 1 by omega]
      have e : factN (m + 1) = (m + 1) * factN m := rfl
      have p := fact_pos m
      have q : (((factN m : Nat) : Int) : Rat) ≠ 0 := by
        intro z
        have z2 : ((factN m : Nat) : Int) = 0 := by exact_mod_cast z
        omega
      have q2 : (((m : Int) + 1 : Int) : Rat) ≠ 0 := by
        intro z
        have z2 : (m : Int) + 1 = 0 := by exact_mod_cast z
        omega
      rw [e]
      have e2 : ((((m + 1) * factN m : Nat) : Int) : Rat) = (((m : Int) + 1 : Int) : Rat) * (((factN m : Nat) : Int) : Rat) := by
        push_cast
        rfl
      rw [e2]
      generalize (((m : Int) + 1 : Int) : Rat) = x at *
      generalize (((factN m : Nat) : Int) : Rat) = y at *
      rw [Rat.inv_mul_rev]
      grind
def sgR (k : Int) : Rat := if k % 2 = 1 then -1 else 1
theorem sgR_succ (k : Int) : sgR (k + 1) = - sgR k := by
  unfold sgR
  by_cases h : k % 2 = 1
  · rw [if_pos h, if_neg (by omega)]
    grind
  · rw [if_neg h, if_pos (by omega)]
/-- one term -/
def tau (A B C D E k : Int) : Rat := sgR k * inv k * inv (A - k) * inv (B - k) * inv (C - k) * inv (D + k) * inv (E + k)
def gee (A B C D E k : Int) : Rat := sgR k * inv (k - 1) * inv (A - k) * inv (B + 1 - k) * inv (C - k) * inv (D + k - 1) * inv (E + k)
theorem tau_step (A B C D E k : Int) : ((B + 1 : Int) : Rat) * tau A (B + 1) C (D - 1) E k + ((E + A + 1 : Int) : Rat) * tau A B (C - 1) D (E + 1) k - ((C + D : Int) : Rat) * tau A B C D E k = gee A B C D E k - gee A B C D E (k + 1) := by
  unfold tau gee
  rw [sgR_succ, show k + 1 - 1 = k by omega, inv_step k, show A - (k + 1) = (A - k) - 1 by omega, inv_step (A - k), show B + 1 - (k + 1) = (B + 1 - k) - 1 by omega, show B - k = (B + 1 - k) - 1 by omega, inv_step (B + 1 - k), show C - (k + 1) = (C - k) - 1 by omega, show C - 1 - k = (C - k) - 1 by omega, inv_step (C - k), show D - 1 + k = (D + k) - 1 by omega, show D + (k + 1) - 1 = D + k by omega, inv_step (D + k), show E + 1 + k = E + k + 1 by omega, show E + (k + 1) = E + k + 1 by omega, show inv (E + k) = ((E + k + 1 : Int) : Rat) * inv (E + k + 1) from by rw [← inv_step, show E + k + 1 - 1 = E + k by omega]]
  generalize inv k = i0
  generalize inv (A - k) = iA
  generalize inv (B + 1 - k) = b1
  generalize inv (C - k) = c0
  generalize inv (D + k) = d0
  generalize inv (E + k + 1) = e1
  generalize sgR k = s
  push_cast
  generalize (A : Rat) = a'
  generalize (B : Rat) = b'
  generalize (C : Rat) = c'
  generalize (D : Rat) = d'
  generalize (E : Rat) = e'
  generalize (k : Rat) = k'
  grind
def sumR (f : Nat → Rat) : Nat → Rat
  | 0 => 0
  | n + 1 => sumR f n + f n
theorem tau_sum (A B C D E : Int) : ∀ n : Nat, ((B + 1 : Int) : Rat) * sumR (fun k => tau A (B + 1) C (D - 1) E k) n + ((E + A + 1 : Int) : Rat) * sumR (fun k => tau A B (C - 1) D (E + 1) k) n - ((C + D : Int) : Rat) * sumR (fun k => tau A B C D E k) n = gee A B C D E 0 - gee A B C D E n
  | 0 => by
    show _ * (0 : Rat) + _ * (0 : Rat) - _ * (0 : Rat) = gee A B C D E 0 - gee A B C D E ((0 : Nat) : Int)
    rw [show ((0 : Nat) : Int) = 0 from rfl]
    grind
  | n + 1 => by
    have h := tau_sum A B C D E n
    have t := tau_step A B C D E (n : Int)
    show _ * (sumR _ n + tau A (B + 1) C (D - 1) E n) + _ * (sumR _ n + tau A B (C - 1) D (E + 1) n) - _ * (sumR _ n + tau A B C D E n) = gee A B C D E 0 - gee A B C D E ((n : Int) + 1)
    grind
/-- the step up of the sums -/
theorem tau_up (A : Nat) (B C D E : Int) : ((C + D : Int) : Rat) * sumR (fun k => tau A B C D E k) (A + 1) = ((B + 1 : Int) : Rat) * sumR (fun k => tau A (B + 1) C (D - 1) E k) (A + 1) + ((E + A + 1 : Int) : Rat) * sumR (fun k => tau A B (C - 1) D (E + 1) k) (A + 1) := by
  have h := tau_sum A B C D E (A + 1)
  have i1 : inv (-1) = 0 := rfl
  have g0 : gee A B C D E 0 = 0 := by
    unfold gee
    rw [show (0 : Int) - 1 = -1 by rfl, i1]
    grind
  have g1 : gee A B C D E ((A + 1 : Nat) : Int) = 0 := by
    unfold gee
    rw [show (A : Int) - ((A + 1 : Nat) : Int) = -1 by omega, i1]
    grind
  rw [g0, g1] at h
  grind
end TCX
namespace TCX
theorem inv_nat {n : Int} (h : 0 ≤ n) : inv n = (((factN n.toNat : Nat) : Int) : Rat)⁻¹ := if_neg (by omega)
theorem inv_neg {n : Int} (h : n < 0) : inv n = 0 := if_pos h
theorem divInt_inv (x : Int) (n : Nat) : Rat.divInt x (n : Int) = (x : Rat) * (((n : Int) : Rat))⁻¹ := by
  rw [Rat.divInt_eq_div, Rat.div_def]
theorem sgR_nat (k : Nat) : sgR (k : Int) = ((sgK k : Int) : Rat) := by
  unfold sgR sgK
  by_cases h : k % 2 = 1
  · rw [if_pos h, if_pos (by omega)]
    rfl
  · rw [if_neg h, if_neg (by omega)]
    rfl
theorem tau_tm (A B C : Nat) (D E : Int) (k : Nat) : tau A B C D E k = Rat.divInt (tmK A B C D E k) ((comK A B C D E : Nat) : Int) := by
  by_cases h : okK A B C D E k = true
  · rw [← frac_com h, divInt_inv]
    obtain ⟨h1, h2, h3, h4, h5⟩ := of_decide_eq_true h
    unfold tau
    rw [sgR_nat, inv_nat (n := (k : Int)) (by omega), inv_nat (n := (A : Int) - k) (by omega), inv_nat (n := (B : Int) - k) (by omega), inv_nat (n := (C : Int) - k) (by omega), inv_nat (n := D + k) h4, inv_nat (n := E + k) h5]
    rw [show ((k : Int)).toNat = k by omega, show ((A : Int) - k).toNat = A - k by omega, show ((B : Int) - k).toNat = B - k by omega, show ((C : Int) - k).toNat = C - k by omega]
    unfold botK
    simp only [Int.natCast_mul, Rat.intCast_mul, Rat.inv_mul_rev]
    grind
  · have e : tmK A B C D E k = 0 := if_neg h
    rw [e, Rat.zero_divInt]
    have h' : ¬ (k ≤ A ∧ k ≤ B ∧ k ≤ C ∧ 0 ≤ D + k ∧ 0 ≤ E + k) := fun z => h (decide_eq_true z)
    unfold tau
    by_cases h1 : k ≤ A
    rotate_left
    · rw [inv_neg (n := (A : Int) - k) (by omega)]
      grind
    by_cases h2 : k ≤ B
    rotate_left
    · rw [inv_neg (n := (B : Int) - k) (by omega)]
      grind
    by_cases h3 : k ≤ C
    rotate_left
    · rw [inv_neg (n := (C : Int) - k) (by omega)]
      grind
    by_cases h4 : 0 ≤ D + k
    rotate_left
    · rw [inv_neg (n := D + k) (by omega)]
      grind
    rw [inv_neg (n := E + k) (by omega)]
    grind
theorem tau_sums (A B C : Nat) (D E : Int) : ∀ n, sumR (fun k => tau A B C D E k) n = Rat.divInt (sumK (tmK A B C D E) n) ((comK A B C D E : Nat) : Int)
  | 0 => by
    rw [show sumK (tmK A B C D E) 0 = 0 from rfl, Rat.zero_divInt]
    rfl
  | n + 1 => by
    have c0 := comK_pos A B C D E
    rw [sumK_succ, ← divInt_sum _ _ (by omega), ← tau_sums A B C D E n, ← tau_tm]
    rfl
theorem tau_none (A B : Int) (D E : Int) : ∀ n : Nat, sumR (fun k => tau A B (-1) D E k) n = 0
  | 0 => rfl
  | n + 1 => by
    show sumR _ n + tau A B (-1) D E n = 0
    rw [tau_none A B D E n]
    unfold tau
    rw [inv_neg (n := -1 - (n : Int)) (by omega)]
    grind
/-- whole numbers: the sum of a step is that of both steps below -/
def smK (A B : Nat) (C : Int) (D E : Int) : Int := if C < 0 then 0 else sumK (tmK A B C.toNat D E) (A + 1)
theorem sum_up (A B C : Nat) (D E : Int) : ((C : Int) + D) * sumK (tmK A B C D E) (A + 1) = ((B : Int) + 1) * sumK (tmK A (B + 1) C (D - 1) E) (A + 1) + (E + A + 1) * smK A B ((C : Int) - 1) D (E + 1) := by
  have c0 := comK_pos A B C D E
  have e1 : comK A (B + 1) C (D - 1) E = comK A B C D E := by
    unfold comK
    rw [show (((B + 1 : Nat) : Int) + (D - 1)) = (B : Int) + D by omega]
  have h := tau_up A (B : Int) (C : Int) D E
  have h1 := tau_sums A B C D E (A + 1)
  have h2 := tau_sums A (B + 1) C (D - 1) E (A + 1)
  rw [e1] at h2
  have h2' : sumR (fun k => tau A ((B : Int) + 1) C (D - 1) E k) (A + 1) = Rat.divInt (sumK (tmK A (B + 1) C (D - 1) E) (A + 1)) ((comK A B C D E : Nat) : Int) := h2
  have h3 : sumR (fun k => tau A B ((C : Int) - 1) D (E + 1) k) (A + 1) = Rat.divInt (smK A B ((C : Int) - 1) D (E + 1)) ((comK A B C D E : Nat) : Int) := by
    unfold smK
    by_cases hc : C = 0
    · subst hc
      rw [if_pos (by decide), Rat.zero_divInt]
      exact tau_none A B D (E + 1) (A + 1)
    · obtain ⟨m, rfl⟩ : ∃ m, C = m + 1 := ⟨C - 1, by omega⟩
      have e2 : comK A B m D (E + 1) = comK A B (m + 1) D E := by
        unfold comK
        rw [show ((m : Int) + (E + 1)) = ((m + 1 : Nat) : Int) + E by omega]
      have h4 := tau_sums A B m D (E + 1) (A + 1)
      rw [e2] at h4
      rw [if_neg (by omega), show (((m + 1 : Nat) : Int) - 1) = (m : Int) by omega, Int.toNat_natCast]
      exact h4
  rw [h1, h2', h3, divInt_inv, divInt_inv, divInt_inv] at h
  have cr : (((comK A B C D E : Nat) : Int) : Rat) ≠ 0 := by
    intro z
    have z2 : ((comK A B C D E : Nat) : Int) = 0 := by exact_mod_cast z
    omega
  have key : (((C : Int) + D : Int) : Rat) * ((sumK (tmK A B C D E) (A + 1) : Int) : Rat) = (((B : Int) + 1 : Int) : Rat) * ((sumK (tmK A (B + 1) C (D - 1) E) (A + 1) : Int) : Rat) + ((E + A + 1 : Int) : Rat) * ((smK A B ((C : Int) - 1) D (E + 1) : Int) : Rat) := by
    generalize (((comK A B C D E : Nat) : Int) : Rat) = y at *
    generalize ((sumK (tmK A B C D E) (A + 1) : Int) : Rat) = x1 at *
    generalize ((sumK (tmK A (B + 1) C (D - 1) E) (A + 1) : Int) : Rat) = x2 at *
    generalize ((smK A B ((C : Int) - 1) D (E + 1) : Int) : Rat) = x3 at *
    generalize (((C : Int) + D : Int) : Rat) = n1 at *
    generalize (((B : Int) + 1 : Int) : Rat) = n2 at *
    generalize ((E + A + 1 : Int) : Rat) = n3 at *
    grind
  exact_mod_cast key
/-! the step down: the same with both sides exchanged -/
theorem okK_swap (A B C : Nat) (D E : Int) (k : Nat) : okK A B C D E k = okK A C B E D k := by
  unfold okK
  exact decide_eq_decide.mpr ⟨fun ⟨h1, h2, h3, h4, h5⟩ => ⟨h1, h3, h2, h5, h4⟩, fun ⟨h1, h2, h3, h4, h5⟩ => ⟨h1, h3, h2, h5, h4⟩⟩
theorem comK_swap (A B C : Nat) (D E : Int) : comK A B C D E = comK A C B E D := by
  unfold comK
  rw [Nat.mul_assoc, Nat.mul_comm (factN ((B : Int) + D).toNat), ← Nat.mul_assoc]
theorem botK_swap (A B C : Nat) (D E : Int) (k : Nat) : botK A B C D E k = botK A C B E D k := by
  unfold botK
  generalize factN k * factN (A - k) = x
  generalize factN (B - k) = y1
  generalize factN (C - k) = y2
  generalize factN (D + k).toNat = y3
  generalize factN (E + k).toNat = y4
  simp only [Nat.mul_assoc, Nat.mul_left_comm, Nat.mul_comm]
theorem tmK_swap (A B C : Nat) (D E : Int) : tmK A B C D E = tmK A C B E D := by
  funext k
  unfold tmK
  rw [okK_swap, comK_swap, botK_swap]
def smB (A : Nat) (B : Int) (C : Nat) (D E : Int) : Int := if B < 0 then 0 else sumK (tmK A B.toNat C D E) (A + 1)
theorem sum_down (A B C : Nat) (D E : Int) : ((B : Int) + E) * sumK (tmK A B C D E) (A + 1) = ((C : Int) + 1) * sumK (tmK A B (C + 1) D (E - 1)) (A + 1) + (D + A + 1) * smB A ((B : Int) - 1) C (D + 1) E := by
  have h := sum_up A C B E D
  rw [tmK_swap A C B E D, tmK_swap A (C + 1) B (E - 1) D] at h
  have e : smK A C ((B : Int) - 1) E (D + 1) = smB A ((B : Int) - 1) C (D + 1) E := by
    unfold smK smB
    rw [tmK_swap]
  rw [e] at h
  exact h
end TCX
namespace TCX
theorem SqF.cop {a b : Nat} (c : Nat.Coprime a b) (ha : SqF a) (hb : SqF b) : SqF (a * b) := fun d hd => by
  have d1 : d ∣ a * b := Nat.dvd_trans (Nat.dvd_mul_right d d) hd
  have e : d = Nat.gcd d a * Nat.gcd d b := by
    have z := Nat.Coprime.gcd_mul d c
    rw [Nat.gcd_eq_left d1] at z
    exact z
  have hx : Nat.gcd d a = 1 := by
    refine ha _ ?_
    have x1 : Nat.gcd d a * Nat.gcd d a ∣ a * b := Nat.dvd_trans (Nat.mul_dvd_mul (Nat.gcd_dvd_left d a) (Nat.gcd_dvd_left d a)) hd
    have c1 : Nat.Coprime (Nat.gcd d a) b := Nat.Coprime.coprime_dvd_left (Nat.gcd_dvd_right d a) c
    exact Nat.Coprime.dvd_of_dvd_mul_right (Nat.Coprime.mul_left c1 c1) x1
  have hy : Nat.gcd d b = 1 := by
    refine hb _ ?_
    have x1 : Nat.gcd d b * Nat.gcd d b ∣ a * b := Nat.dvd_trans (Nat.mul_dvd_mul (Nat.gcd_dvd_left d b) (Nat.gcd_dvd_left d b)) hd
    have c1 : Nat.Coprime (Nat.gcd d b) a := Nat.Coprime.coprime_dvd_left (Nat.gcd_dvd_right d b) c.symm
    exact Nat.Coprime.dvd_of_dvd_mul_left (Nat.Coprime.mul_left c1 c1) x1
  rw [hx, hy] at e
  exact e
theorem SqF.mulR {a b : Nat} (ha : SqF a) (hb : SqF b) : SqF (a / Nat.gcd a b * (b / Nat.gcd a b)) := by
  have a0 := ha.pos
  have g0 : 0 < Nat.gcd a b := Nat.gcd_pos_of_pos_left _ a0
  exact SqF.cop (Nat.coprime_div_gcd_div_gcd g0) (ha.dvd (Nat.div_dvd_of_dvd (Nat.gcd_dvd_left a b))) (hb.dvd (Nat.div_dvd_of_dvd (Nat.gcd_dvd_right a b)))
/-- a root times a joined number's root: one root for all that differ by squares -/
theorem root_times {ab ab0 be : List Nat} (h1 : ∀ n ∈ ab, n < 123) (h2 : ∀ n ∈ ab0, n < 123) (h3 : ∀ n ∈ be, n < 123) {N sq fr f : Nat} (hN : N * 1 = sq * sq * fr) (hf : SqF fr) (sq0 : 0 < sq) (hP : N * prodF ab = f * f * prodF ab0) (f0 : 0 < f) :
    fr / Nat.gcd fr (rootE ab be) * (rootE ab be / Nat.gcd fr (rootE ab be)) = rootE ab0 be ∧ sq * topE ab be * Nat.gcd fr (rootE ab be) * botE ab0 be = f * topE ab0 be * botE ab be := by
  have pb : 0 < prodF be := by
    rw [prodF_leg h3]
    exact powP_pos pr30_p
  have e1 := rootE_ok h1 h3
  have e2 := rootE_ok h2 h3
  have s1 := rootE_sqF ab be
  have s2 := rootE_sqF ab0 be
  have sm := SqF.mulR hf s1
  have g0 : 0 < Nat.gcd fr (rootE ab be) := Nat.gcd_pos_of_pos_left _ hf.pos
  have d1 := Nat.div_mul_cancel (Nat.gcd_dvd_left fr (rootE ab be))
  have d2 := Nat.div_mul_cancel (Nat.gcd_dvd_right fr (rootE ab be))
  have t0 := topE_pos ab be
  have b0 := botE_pos ab0 be
  revert d1 d2 g0 sm
  generalize Nat.gcd fr (rootE ab be) = g
  generalize fr / g = x
  generalize rootE ab be / g = y
  intro sm g0 d1 d2
  have key : (sq * topE ab be * g * botE ab0 be) * (sq * topE ab be * g * botE ab0 be) * (x * y) = (f * topE ab0 be * botE ab be) * (f * topE ab0 be * botE ab be) * rootE ab0 be := by
    refine Nat.eq_of_mul_eq_mul_right pb ?_
    calc (sq * topE ab be * g * botE ab0 be) * (sq * topE ab be * g * botE ab0 be) * (x * y) * prodF be
        = (botE ab0 be * botE ab0 be) * (sq * sq * (x * g)) * (topE ab be * topE ab be * (y * g) * prodF be) := by simp only [Nat.mul_assoc, Nat.mul_left_comm, Nat.mul_comm]
      _ = (botE ab0 be * botE ab0 be) * (N * 1) * (botE ab be * botE ab be * prodF ab) := by rw [d1, d2, ← hN, e1]
      _ = (botE ab0 be * botE ab0 be) * (botE ab be * botE ab be) * (N * prodF ab) := by simp only [Nat.mul_one, Nat.mul_assoc, Nat.mul_left_comm, Nat.mul_comm]
      _ = (botE ab0 be * botE ab0 be) * (botE ab be * botE ab be) * (f * f * prodF ab0) := by rw [hP]
      _ = (f * f) * (botE ab be * botE ab be) * (botE ab0 be * botE ab0 be * prodF ab0) := by simp only [Nat.mul_assoc, Nat.mul_left_comm, Nat.mul_comm]
      _ = (f * f) * (botE ab be * botE ab be) * (topE ab0 be * topE ab0 be * rootE ab0 be * prodF be) := by rw [e2]
      _ = _ := by simp only [Nat.mul_assoc, Nat.mul_left_comm, Nat.mul_comm]
  obtain ⟨z1, z2⟩ := sq_uniq (Nat.mul_pos (Nat.mul_pos (Nat.mul_pos sq0 t0) g0) b0) sm s2 key
  exact ⟨z2, z1⟩
end TCX
/-! roots of fractions: a number s times the root of N, as one root and one fraction -/
namespace TCX
theorem sq_part : ∀ n : Nat, 0 < n → ∃ s f : Nat, 0 < s ∧ SqF f ∧ n = s * s * f := by
  intro n
  induction n using Nat.strongRecOn with
  | _ n ih =>
    intro h
    by_cases hs : SqF n
    · exact ⟨1, n, by decide, hs, by omega⟩
    · have : ∃ d, d * d ∣ n ∧ d ≠ 1 := Classical.byContradiction fun z => hs fun d hd => Classical.byContradiction fun y => z ⟨d, hd, y⟩
      obtain ⟨d, ⟨k, hk⟩, d1⟩ := this
      have d0 : 0 < d := by
        rcases Nat.eq_zero_or_pos d with z | z
        · subst z
          simp at hk
          omega
        · exact z
      have k0 : 0 < k := by
        rcases Nat.eq_zero_or_pos k with z | z
        · rw [z, Nat.mul_zero] at hk
          omega
        · exact z
      have dd : 4 ≤ d * d := Nat.mul_le_mul (show 2 ≤ d by omega) (show 2 ≤ d by omega)
      have lt : k < n := by
        rw [hk]
        have := Nat.mul_le_mul dd (Nat.le_refl k)
        omega
      obtain ⟨s, f, s0, hf, e⟩ := ih k lt k0
      exact ⟨d * s, f, Nat.mul_pos d0 s0, hf, by rw [hk, e]; simp only [Nat.mul_assoc, Nat.mul_left_comm, Nat.mul_comm]⟩
/-- F and Q: the root of N is Q times the root of F -/
structure IsRt (F : Nat) (Q N : Rat) : Prop where
  sq : SqF F
  q0 : 0 < Q
  e : Q * Q * (F : Rat) = N
theorem pos_nat {n : Nat} (h : 0 < n) : (0 : Rat) < (n : Rat) := by
  have := (Rat.natCast_lt_natCast (a := 0) (b := n)).mpr h
  simpa using this
theorem ne_of_pos {q : Rat} (h : 0 < q) : q ≠ 0 := fun z => by
  rw [z] at h
  exact Rat.lt_irrefl h
theorem rat_frac (q : Rat) : q * (q.den : Rat) = (q.num : Rat) := by
  rw [Rat.eq_iff_mul_eq_mul, Rat.num_mul, Rat.den_mul]
  show (q.num * (q.den : Int) / ((Nat.gcd (q.num * (q.den : Int)).natAbs (q.den * 1) : Nat) : Int)) * 1 = q.num * (((q.den * 1 / Nat.gcd (q.num * (q.den : Int)).natAbs (q.den * 1) : Nat)) : Int)
  have g : Nat.gcd (q.num * (q.den : Int)).natAbs (q.den * 1) = q.den := by
    rw [Nat.mul_one, Int.natAbs_mul, Int.natAbs_natCast]
    exact Nat.gcd_eq_right (Nat.dvd_mul_left _ _)
  have d0 := q.den_pos
  rw [g, Nat.mul_one, Nat.div_self d0, Int.mul_ediv_cancel _ (by omega)]
  rfl
theorem num_nat {q : Rat} (h : 0 < q) : ∃ n : Nat, 0 < n ∧ q.num = (n : Int) := by
  have z : 0 < q.num := (by
    have z := (Rat.lt_iff 0 q).mp h
    simpa using z)
  exact ⟨q.num.toNat, by omega, by omega⟩
theorem IsRt.uniq {F F' : Nat} {Q Q' N : Rat} (h : IsRt F Q N) (h' : IsRt F' Q' N) : F = F' ∧ Q = Q' := by
  obtain ⟨a, a0, ea⟩ := num_nat h.q0
  obtain ⟨c, c0, ec⟩ := num_nat h'.q0
  have d0 := Q.den_pos
  have d0' := Q'.den_pos
  have e1 := rat_frac Q
  have e2 := rat_frac Q'
  rw [ea] at e1
  rw [ec] at e2
  have e3 : Q * Q * (F : Rat) = Q' * Q' * (F' : Rat) := by rw [h.e, h'.e]
  have key : ((a * Q'.den : Nat) : Rat) * ((a * Q'.den : Nat) : Rat) * (F : Rat) = ((c * Q.den : Nat) : Rat) * ((c * Q.den : Nat) : Rat) * (F' : Rat) := by
    have x1 : ((a * Q'.den : Nat) : Rat) = Q * (Q.den : Rat) * (Q'.den : Rat) := by rw [e1, Rat.natCast_mul]; rfl
    have x2 : ((c * Q.den : Nat) : Rat) = Q' * (Q'.den : Rat) * (Q.den : Rat) := by rw [e2, Rat.natCast_mul]; rfl
    rw [x1, x2]
    grind
  have keyN : (a * Q'.den) * (a * Q'.den) * F = (c * Q.den) * (c * Q.den) * F' := by
    have : (((a * Q'.den) * (a * Q'.den) * F : Nat) : Rat) = (((c * Q.den) * (c * Q.den) * F' : Nat) : Rat) := by
      rw [Rat.natCast_mul, Rat.natCast_mul, Rat.natCast_mul (c * Q.den * (c * Q.den)), Rat.natCast_mul (c * Q.den) (c * Q.den)]
      exact key
    exact Rat.natCast_inj.mp this
  obtain ⟨z1, z2⟩ := sq_uniq (Nat.mul_pos a0 d0') h.sq h'.sq keyN
  refine ⟨z2, ?_⟩
  have w : ((a * Q'.den : Nat) : Rat) = ((c * Q.den : Nat) : Rat) := by rw [z1]
  rw [Rat.natCast_mul, Rat.natCast_mul] at w
  have n1 := ne_of_pos (pos_nat d0)
  have n2 := ne_of_pos (pos_nat d0')
  have y : Q * ((Q.den : Rat) * (Q'.den : Rat)) = Q' * ((Q.den : Rat) * (Q'.den : Rat)) := by
    have x1 : Q * ((Q.den : Rat) * (Q'.den : Rat)) = (a : Rat) * (Q'.den : Rat) := by rw [← Rat.mul_assoc, e1]; rfl
    have x2 : Q' * ((Q.den : Rat) * (Q'.den : Rat)) = (c : Rat) * (Q.den : Rat) := by rw [Rat.mul_comm (Q.den : Rat), ← Rat.mul_assoc, e2]; rfl
    rw [x1, x2, w]
  have ne : (Q.den : Rat) * (Q'.den : Rat) ≠ 0 := by
    intro z
    rcases Rat.mul_eq_zero.mp z with t | t
    · exact n1 t
    · exact n2 t
  grind
theorem IsRt.ex {N : Rat} (h : 0 < N) : ∃ F Q, IsRt F Q N := by
  obtain ⟨n, n0, en⟩ := num_nat h
  have d0 := N.den_pos
  obtain ⟨s, f, s0, hf, e⟩ := sq_part (n * N.den) (Nat.mul_pos n0 d0)
  have dn := ne_of_pos (pos_nat d0)
  refine ⟨f, (s : Rat) / (N.den : Rat), hf, ?_, ?_⟩
  · rw [Rat.div_def]
    exact Rat.mul_pos (pos_nat s0) (Rat.inv_pos.mpr (pos_nat d0))
  · have e1 := rat_frac N
    rw [en] at e1
    have e2 : (s : Rat) * (s : Rat) * (f : Rat) = (n : Rat) * (N.den : Rat) := by
      rw [← Rat.natCast_mul, ← Rat.natCast_mul, ← Rat.natCast_mul, e]
    have e3 : ((n : Nat) : Rat) = N * (N.den : Rat) := by rw [e1]; rfl
    rw [e3] at e2
    grind
open Classical in
noncomputable def rF (N : Rat) : Nat := if h : 0 < N then Classical.choose (IsRt.ex h) else 1
open Classical in
noncomputable def rQ (N : Rat) : Rat := if h : 0 < N then Classical.choose (Classical.choose_spec (IsRt.ex h)) else 1
theorem rt_ok {N : Rat} (h : 0 < N) : IsRt (rF N) (rQ N) N := by
  unfold rF rQ
  rw [dif_pos h, dif_pos h]
  exact Classical.choose_spec (Classical.choose_spec (IsRt.ex h))
theorem IsRt.is {F : Nat} {Q N : Rat} (h : IsRt F Q N) (h0 : 0 < N) : rF N = F ∧ rQ N = Q := (rt_ok h0).uniq h
theorem IsRt.pos {F : Nat} {Q N : Rat} (h : IsRt F Q N) : 0 < N := by
  rw [← h.e]
  exact Rat.mul_pos (Rat.mul_pos h.q0 h.q0) (pos_nat h.sq.pos)
/-- s times the root of N -/
noncomputable def sv (s N : Rat) (r : Int) : Rat := if r = (rF N : Int) then s * rQ N else 0
theorem IsRt.sv {F : Nat} {Q N : Rat} (h : IsRt F Q N) (s : Rat) (r : Int) : TCX.sv s N r = if r = (F : Int) then s * Q else 0 := by
  obtain ⟨e1, e2⟩ := h.is h.pos
  unfold TCX.sv
  rw [e1, e2]
theorem sv_zero (N : Rat) (r : Int) : sv 0 N r = 0 := by
  unfold sv
  split
  · rw [Rat.zero_mul]
  · rfl
theorem sv_add (s t N : Rat) (r : Int) : sv s N r + sv t N r = sv (s + t) N r := by
  unfold sv
  split
  · rw [Rat.add_mul]
  · rw [Rat.add_zero]
theorem sv_mul (s t N : Rat) (r : Int) : t * sv s N r = sv (t * s) N r := by
  unfold sv
  split
  · rw [Rat.mul_assoc]
  · rw [Rat.mul_zero]
theorem IsRt.one : IsRt 1 1 1 := ⟨SqF.one, by decide, by decide +kernel⟩
theorem sv_one (s : Rat) (r : Int) : sv s 1 r = if r = 1 then s else 0 := by
  rw [IsRt.one.sv]
  rw [Rat.mul_one]
  rfl
theorem IsRt.scale {F : Nat} {Q N t : Rat} (h : IsRt F Q N) (ht : 0 < t) : IsRt F (Q * t) (N * (t * t)) := ⟨h.sq, Rat.mul_pos h.q0 ht, by rw [← h.e]; grind⟩
theorem sv_sq {N t : Rat} (s : Rat) (hN : 0 < N) (ht : 0 < t) (r : Int) : sv s (N * (t * t)) r = sv (s * t) N r := by
  have h := rt_ok hN
  rw [(h.scale ht).sv, h.sv]
  split
  · grind
  · rfl
theorem IsRt.mul {F F' : Nat} {Q Q' N N' : Rat} (h : IsRt F Q N) (h' : IsRt F' Q' N') : IsRt (F / Nat.gcd F F' * (F' / Nat.gcd F F')) (Q * Q' * ((Nat.gcd F F' : Nat) : Rat)) (N * N') := by
  have g0 : 0 < Nat.gcd F F' := Nat.gcd_pos_of_pos_left _ h.sq.pos
  refine ⟨SqF.mulR h.sq h'.sq, Rat.mul_pos (Rat.mul_pos h.q0 h'.q0) (pos_nat g0), ?_⟩
  have d1 := Nat.div_mul_cancel (Nat.gcd_dvd_left F F')
  have d2 := Nat.div_mul_cancel (Nat.gcd_dvd_right F F')
  rw [← h.e, ← h'.e]
  have e1 : (F : Rat) = ((F / Nat.gcd F F' : Nat) : Rat) * ((Nat.gcd F F' : Nat) : Rat) := by rw [← Rat.natCast_mul, d1]
  have e2 : (F' : Rat) = ((F' / Nat.gcd F F' : Nat) : Rat) * ((Nat.gcd F F' : Nat) : Rat) := by rw [← Rat.natCast_mul, d2]
  rw [Rat.natCast_mul]
  generalize Nat.gcd F F' = g at *
  generalize F / g = x at *
  generalize F' / g = y at *
  rw [e1, e2]
  grind
end TCX
/-! the sum of a six -/
namespace TCX
set_option exponentiation.threshold 20000
theorem prodF_dvd : ∀ l : List Nat, prodF l ∣ factN l.sum
  | [] => Nat.dvd_refl _
  | n :: l => by
    show factN n * prodF l ∣ factN (n + l.sum)
    exact Nat.dvd_trans (Nat.mul_dvd_mul (Nat.dvd_refl _) (prodF_dvd l)) (fact_dvd n l.sum)
theorem prodF_pos : ∀ l : List Nat, 0 < prodF l
  | [] => by decide
  | n :: l => Nat.mul_pos (fact_pos n) (prodF_pos l)
theorem prodF_append : ∀ l m : List Nat, prodF (l ++ m) = prodF l * prodF m
  | [], m => (Nat.one_mul _).symm
  | n :: l, m => by
    show factN n * prodF (l ++ m) = factN n * prodF l * prodF m
    rw [prodF_append l m, Nat.mul_assoc]
theorem prodF_perm {l m : List Nat} (h : l.Perm m) : prodF l = prodF m := by
  induction h with
  | nil => rfl
  | cons x _ ih => exact congrArg (fun z => factN x * z) ih
  | swap x y l => exact Nat.mul_left_comm ..
  | trans _ _ h1 h2 => exact h1.trans h2
/-- what stands below the term k: lows ts, highs os -/
def sixB (ts os : List Nat) (k : Nat) : Nat := prodF ((ts.map fun t => k - t) ++ os.map fun o => o - k)
theorem sixB_pos (ts os : List Nat) (k : Nat) : 0 < sixB ts os k := prodF_pos _
theorem sixB_perm {ts ts' os os' : List Nat} (h1 : ts.Perm ts') (h2 : os.Perm os') (k : Nat) : sixB ts os k = sixB ts' os' k := prodF_perm ((h1.map _).append (h2.map _))
def okS (ts os : List Nat) (k : Nat) : Bool := (ts.all fun t => decide (t ≤ k)) && os.all fun o => decide (k ≤ o)
theorem sum_sub1 : ∀ {ts : List Nat} {k : Nat}, (∀ t ∈ ts, t ≤ k) → (ts.map fun t => k - t).sum + ts.sum = ts.length * k
  | [], k, _ => by simp
  | t :: ts, k, h => by
    have h1 := sum_sub1 (ts := ts) (k := k) fun x hx => h x (List.mem_cons_of_mem _ hx)
    have h2 := h t (by simp)
    simp only [List.map_cons, List.sum_cons, List.length_cons, Nat.succ_mul, Nat.add_mul]
    omega
theorem sum_sub2 : ∀ {os : List Nat} {k : Nat}, (∀ o ∈ os, k ≤ o) → (os.map fun o => o - k).sum + os.length * k = os.sum
  | [], k, _ => by simp
  | o :: os, k, h => by
    have h1 := sum_sub2 (os := os) (k := k) fun x hx => h x (List.mem_cons_of_mem _ hx)
    have h2 := h o (by simp)
    simp only [List.map_cons, List.sum_cons, List.length_cons, Nat.succ_mul, Nat.add_mul]
    omega
theorem okS_iff {ts os : List Nat} {k : Nat} : okS ts os k = true ↔ (∀ t ∈ ts, t ≤ k) ∧ ∀ o ∈ os, k ≤ o := by
  unfold okS
  rw [Bool.and_eq_true, List.all_eq_true, List.all_eq_true]
  constructor
  · intro h
    exact ⟨fun t ht => of_decide_eq_true (h.1 t ht), fun o ho => of_decide_eq_true (h.2 o ho)⟩
  · intro h
    exact ⟨fun t ht => decide_eq_true (h.1 t ht), fun o ho => decide_eq_true (h.2 o ho)⟩
theorem sixB_dvd {ts os : List Nat} {k : Nat} (l1 : ts.length = 4) (l2 : os.length = 3) (e : ts.sum = os.sum) (h : okS ts os k = true) : sixB ts os k ∣ factN (k + 1) := by
  obtain ⟨h1, h2⟩ := okS_iff.mp h
  have s1 := sum_sub1 h1
  have s2 := sum_sub2 h2
  rw [l1] at s1
  rw [l2] at s2
  have z := prodF_dvd ((ts.map fun t => k - t) ++ os.map fun o => o - k)
  rw [List.sum_append, show (ts.map fun t => k - t).sum + (os.map fun o => o - k).sum = k by omega] at z
  exact Nat.dvd_trans z ⟨k + 1, Nat.mul_comm ..⟩
def sixT (ts os : List Nat) (k : Nat) : Int := if okS ts os k = true then sgK k * ((factN (k + 1) / sixB ts os k : Nat) : Int) else 0
theorem sixT_perm {ts ts' os os' : List Nat} (h1 : ts.Perm ts') (h2 : os.Perm os') (k : Nat) : sixT ts os k = sixT ts' os' k := by
  have e : okS ts os k = okS ts' os' k := by
    rw [Bool.eq_iff_iff, okS_iff, okS_iff]
    constructor
    · intro h
      exact ⟨fun t ht => h.1 t (h1.mem_iff.mpr ht), fun t ht => h.2 t (h2.mem_iff.mpr ht)⟩
    · intro h
      exact ⟨fun t ht => h.1 t (h1.mem_iff.mp ht), fun t ht => h.2 t (h2.mem_iff.mp ht)⟩
  unfold sixT
  rw [e, sixB_perm h1 h2]
/-- a term is whole -/
theorem sixT_rat {ts os : List Nat} {k : Nat} (l1 : ts.length = 4) (l2 : os.length = 3) (e : ts.sum = os.sum) (h : okS ts os k = true) : Rat.divInt (sgK k * ((factN (k + 1) : Nat) : Int)) ((sixB ts os k : Nat) : Int) = ((sixT ts os k : Int) : Rat) := by
  obtain ⟨m, hm⟩ := sixB_dvd l1 l2 e h
  have p := sixB_pos ts os k
  unfold sixT
  rw [if_pos h, hm, Nat.mul_div_cancel_left _ p]
  rw [Int.natCast_mul, ← Int.mul_assoc, Int.mul_comm (sgK k), Int.mul_assoc]
  have z : Rat.divInt (((sixB ts os k : Nat) : Int) * (sgK k * (m : Int))) (((sixB ts os k : Nat) : Int) * 1) = Rat.divInt (sgK k * (m : Int)) 1 := Rat.divInt_mul_left (by omega)
  rw [Int.mul_one] at z
  rw [z]
  exact (Rat.num_divInt_den ((sgK k * (m : Int) : Int) : Rat))
def lsFrom (lo n : Nat) (f : Nat → Int) : List Int := (List.range n).map fun i => f (lo + i)
theorem lsFrom_succ (lo n : Nat) (f : Nat → Int) : lsFrom lo (n + 1) f = lsFrom lo n f ++ [f (lo + n)] := by
  unfold lsFrom
  rw [List.range_succ, List.map_append]
  rfl
theorem fact81 : ∀ n, n ≤ 82 → factN n < 2 ^ 410 := by decide +kernel
theorem fact_mono : ∀ {m n : Nat}, m ≤ n → factN m ≤ factN n := by
  intro m n h
  obtain ⟨d, rfl⟩ := Nat.exists_eq_add_of_le h
  have := fact_dvd m d
  exact Nat.le_trans (Nat.le_mul_of_pos_right _ (fact_pos d)) (Nat.le_of_dvd (fact_pos _) this)
theorem sgK_abs (k : Nat) : (sgK k).natAbs = 1 := by
  unfold sgK
  split <;> rfl
theorem sixT_lt {ts os : List Nat} {k : Nat} (hk : k ≤ 81) : (sixT ts os k).natAbs < 2 ^ 410 := by
  unfold sixT
  split
  · rw [Int.natAbs_mul, sgK_abs, Nat.one_mul, Int.natAbs_natCast]
    exact Nat.lt_of_le_of_lt (Nat.div_le_self ..) (fact81 _ (by omega))
  · decide
theorem sum_lt : ∀ {l : List Int} {M : Nat}, (∀ x ∈ l, x.natAbs ≤ M) → l.sum.natAbs ≤ l.length * M
  | [], M, _ => by simp
  | x :: l, M, h => by
    have h1 := sum_lt (l := l) fun y hy => h y (List.mem_cons_of_mem _ hy)
    have h2 := h x (by simp)
    have h3 := Int.natAbs_add_le x l.sum
    rw [List.sum_cons, List.length_cons, Nat.succ_mul]
    omega
end TCX
namespace TCX
set_option exponentiation.threshold 20000
theorem filter_eq {p q : Nat → Bool} : ∀ {l : List Nat}, (∀ k ∈ l, p k = q k) → l.filter p = l.filter q
  | [], _ => rfl
  | k :: l, h => by
    have h1 := filter_eq (l := l) fun x hx => h x (List.mem_cons_of_mem _ hx)
    have h2 := h k (by simp)
    simp [List.filter_cons, h1, h2]
theorem range_le (lo n m : Nat) (h : lo + n ≤ m) : (List.range m).filter (fun k => decide (lo ≤ k) && decide (k < lo + n)) = (List.range n).map (lo + ·) := by
  obtain ⟨d, rfl⟩ := Nat.exists_eq_add_of_le h
  rw [List.range_add, List.range_add, List.filter_append, List.filter_append]
  have e1 : (List.range lo).filter (fun k => decide (lo ≤ k) && decide (k < lo + n)) = [] := by
    rw [List.filter_eq_nil_iff]
    intro k hk
    have := List.mem_range.mp hk
    simp
    try omega
  have e2 : ((List.range n).map (lo + ·)).filter (fun k => decide (lo ≤ k) && decide (k < lo + n)) = (List.range n).map (lo + ·) := by
    rw [List.filter_eq_self]
    intro k hk
    obtain ⟨i, hi, rfl⟩ := List.mem_map.mp hk
    have := List.mem_range.mp hi
    simp
    try omega
  have e3 : ((List.range d).map (lo + n + ·)).filter (fun k => decide (lo ≤ k) && decide (k < lo + n)) = [] := by
    rw [List.filter_eq_nil_iff]
    intro k hk
    obtain ⟨i, _, rfl⟩ := List.mem_map.mp hk
    simp
    try omega
  rw [e1, e2, e3]
  simp
/-- the terms of the sum of a six, k by k -/
def sixTL (ts os : List Nat) : List Int := ((List.range 82).filter (okS ts os)).map (sixT ts os)
theorem sixTL_is {ts os : List Nat} {lo n : Nat} (h : ∀ k, okS ts os k = true ↔ lo ≤ k ∧ k < lo + n) (hn : lo + n ≤ 82) : sixTL ts os = lsFrom lo n (sixT ts os) := by
  unfold sixTL lsFrom
  rw [filter_eq (q := fun k => decide (lo ≤ k) && decide (k < lo + n)) fun k _ => by
    rw [Bool.eq_iff_iff, h k]
    simp, range_le lo n 82 hn, List.map_map]
  rfl
theorem sixTL_perm {ts ts' os os' : List Nat} (h1 : ts.Perm ts') (h2 : os.Perm os') : sixTL ts os = sixTL ts' os' := by
  unfold sixTL
  have e : okS ts os = okS ts' os' := funext fun k => by
    rw [Bool.eq_iff_iff, okS_iff, okS_iff]
    constructor
    · intro h
      exact ⟨fun t ht => h.1 t (h1.mem_iff.mpr ht), fun t ht => h.2 t (h2.mem_iff.mpr ht)⟩
    · intro h
      exact ⟨fun t ht => h.1 t (h1.mem_iff.mp ht), fun t ht => h.2 t (h2.mem_iff.mp ht)⟩
  have e2 : sixT ts os = sixT ts' os' := funext fun k => sixT_perm h1 h2 k
  rw [e, e2]
def sixS (ts os : List Nat) : Int := (sixTL ts os).sum
end TCX
namespace TCX
set_option exponentiation.threshold 20000
theorem fact_lt2' : ∀ n, n < 42 → factN n < 2 ^ 166 := by decide +kernel
theorem prodF_lt2' : ∀ {l : List Nat}, (∀ n ∈ l, n < 42) → prodF l < 2 ^ (166 * l.length + 1)
  | [], _ => by decide
  | n :: l, h => by
    have h1 := prodF_lt2' (l := l) fun m hm => h m (List.mem_cons_of_mem _ hm)
    show factN n * prodF l < 2 ^ (166 * (l.length + 1) + 1)
    rw [show 166 * (l.length + 1) + 1 = 166 + (166 * l.length + 1) by omega, Nat.pow_add]
    exact Nat.mul_lt_mul'' (fact_lt2' n (h n (by simp))) h1
theorem sixTL_len (ts os : List Nat) : (sixTL ts os).length ≤ 82 := by
  unfold sixTL
  rw [List.length_map]
  exact Nat.le_trans (List.length_filter_le _ _) (by rw [List.length_range]; exact Nat.le_refl _)
theorem sixTL_lt {ts os : List Nat} : ∀ x ∈ sixTL ts os, x.natAbs < 2 ^ 410 := fun x hx => by
  obtain ⟨k, hk, rfl⟩ := List.mem_map.mp hx
  have := List.mem_range.mp (List.mem_filter.mp hk).1
  exact sixT_lt (by omega)
theorem sixS_lt {ts os : List Nat} : (sixS ts os).natAbs < 2 ^ 417 := by
  have z := sum_lt (l := sixTL ts os) (M := 2 ^ 410) fun x hx => Nat.le_of_lt (sixTL_lt x hx)
  have y := Nat.mul_le_mul (sixTL_len ts os) (Nat.le_refl (2 ^ 410))
  have x : 82 * 2 ^ 410 < 2 ^ 417 := by decide +kernel
  exact Nat.lt_of_le_of_lt z (Nat.lt_of_le_of_lt y x)
end TCX
namespace TCX
open PySem PySem.Spec PyProof.Rows L2
section
variable {prog : Program} {w : World} {A : Around} {E : Value → Shared → Prop} {s : Shared} {t : Addr} {xs : Array (Int × Tok)}
theorem min_tup {Q : Value → Shared → Prop} (hh : A.handled = none) (ht : s.heap.IsTuple t (intItems xs)) (hp : 0 < xs.size)
    (h : ∀ v h' tk, (intItems xs)[argBest (fun i j => decide (numAt xs i < numAt xs j)) (xs.size - 1)]? = some v → (∀ b o, s.heap.get? b = some o → h'.get? b = some o) → Q v { s with heap := h', toks := tk }) :
    wpAny (model prog w) A (call (.builtin "min") [.ref t]) Q E s := by
  obtain ⟨hne, hb⟩ := tup_below ht
  refine call_min_walk (wpAny_pyIter_tuple ht ?_)
  refine ⟨_, [_, t], [_], _, _, _, _, rfl, Walks.tuple (A := A.in1) hh _ t hne (intItems xs), ⟨⟨_, Heap.get?_push_size _ rfl, rfl, rfl⟩, ht.push _⟩, hb, by simpa [intItems] using hp, CmpOf.ints_lt (numAt xs) (fun _ _ => intItems_at), fun v h' tk hP hk => ?_⟩
  exact h v h' tk (by simpa [intItems] using hP) (tup_kept hk)
end
section
variable {X : Cx}
/-- min(t) of a tuple of whole numbers -/
def rMinT (K : PySem.W.Frag) : List V → Hp → VK → Prop := fun vs H Q => ∃ (a : Addr) (ns : List Int), vs = [V.ref a] ∧ SqT K H a (ns.map V.int) ∧ 0 < ns.length ∧ ∀ m, m ∈ ns → (∀ y, y ∈ ns → m ≤ y) → Q (.int m) H
theorem cr_minT (hc : X.calm = true) : CallR X (.builtin "min") (rMinT X.K) := by
  intro pins s σ H vs us Q I r h
  obtain ⟨a, ns, rfl, hs, hne, q⟩ := h
  obtain ⟨its, rv, ht, _⟩ := I.tuple hs
  rw [Vals.ref1 r]
  have hi := rv.ints
  obtain ⟨xs, e⟩ := hi.allInts.items
  have hn : numsOf (intItems xs).toList = ns := by rw [← e]; exact hi.numsOf
  rw [nums_intItems] at hn
  subst hn
  rw [e] at ht
  have hsz : 0 < xs.size := by simpa using hne
  refine min_tup (I.ok.hd hc) ht hsz fun v h' tk hv hk => ?_
  obtain ⟨t, rfl⟩ := intItems_at hv
  obtain ⟨h1, h2⟩ := argBest_lt (numAt xs) (xs.size - 1)
  refine ⟨.int _, H, I.kept hk, ⟨_, rfl⟩, q _ ?_ fun y hy => ?_⟩
  · rw [numAt_eq]
    exact PySem.getD_mem (by rw [List.length_map, Array.length_toList]; omega)
  · obtain ⟨j, hj, rfl⟩ := mem_getD hy
    rw [List.length_map, Array.length_toList] at hj
    rw [← numAt_eq]
    exact h2 j (by omega)
end
end TCX
namespace TC
set_option exponentiation.threshold 20000
open PySem PySem.Spec PyProof.Rows L2 TCA TCX
/-- six sizes whose triangles may all be joined -/
structure SixP (a b c d e f : Int) : Prop where
  i : ∀ x ∈ [a, b, c, d, e, f], 0 ≤ x ∧ x ≤ 40
  j : Jn a b c d e f = true
def natL (l : List Int) : List Nat := l.map Int.toNat
def sixTs (a b c d e f : Int) : List Nat := natL (lows a b c d e f)
def sixOs (a b c d e f : Int) : List Nat := natL (opps a b c d e f)
theorem jn_iff {a b c d e f : Int} : Jn a b c d e f = true ↔ canB a b c = true ∧ canB a e f = true ∧ canB d b f = true ∧ canB d e c = true := by
  unfold Jn
  simp only [Bool.and_eq_true]
structure SixF (a b c d e f : Int) : Prop where
  a0 : 0 ≤ a ∧ a ≤ 40
  b0 : 0 ≤ b ∧ b ≤ 40
  c0 : 0 ≤ c ∧ c ≤ 40
  d0 : 0 ≤ d ∧ d ≤ 40
  e0 : 0 ≤ e ∧ e ≤ 40
  f0 : 0 ≤ f ∧ f ≤ 40
  t1 : (a + b + c) % 2 = 0 ∧ a ≤ b + c ∧ b ≤ a + c ∧ c ≤ a + b
  t2 : (a + e + f) % 2 = 0 ∧ a ≤ e + f ∧ e ≤ a + f ∧ f ≤ a + e
  t3 : (d + b + f) % 2 = 0 ∧ d ≤ b + f ∧ b ≤ d + f ∧ f ≤ d + b
  t4 : (d + e + c) % 2 = 0 ∧ d ≤ e + c ∧ e ≤ d + c ∧ c ≤ d + e
theorem SixP.f {a b c d e f : Int} (h : SixP a b c d e f) : SixF a b c d e f := by
  obtain ⟨h1, h2, h3, h4⟩ := jn_iff.mp h.j
  exact ⟨h.i _ (by simp), h.i _ (by simp), h.i _ (by simp), h.i _ (by simp), h.i _ (by simp), h.i _ (by simp), canB_iff.mp h1, canB_iff.mp h2, canB_iff.mp h3, canB_iff.mp h4⟩
theorem lows_eq (a b c d e f : Int) : lows a b c d e f = [(a + b + c) / 2, (a + e + f) / 2, (d + b + f) / 2, (d + e + c) / 2] := by
  unfold lows quad
  simp only [List.map_cons, List.map_nil, List.sum_cons, List.sum_nil, Int.add_zero, Int.add_assoc]
theorem lows_b {a b c d e f : Int} (h : SixF a b c d e f) : ∀ x ∈ lows a b c d e f, 0 ≤ x ∧ x ≤ 60 := by
  obtain ⟨h1, h2, h3, h4, h5, h6, h7, h8, h9, h10⟩ := h
  intro x hx
  rw [lows_eq] at hx
  simp only [List.mem_cons, List.not_mem_nil, or_false] at hx
  omega
theorem opps_b {a b c d e f : Int} (h : SixF a b c d e f) : ∀ x ∈ opps a b c d e f, 0 ≤ x ∧ x ≤ 80 := by
  obtain ⟨h1, h2, h3, h4, h5, h6, h7, h8, h9, h10⟩ := h
  intro x hx
  unfold opps at hx
  simp only [List.mem_cons, List.not_mem_nil, or_false] at hx
  omega
theorem low_opp {a b c d e f : Int} (h : SixF a b c d e f) : ∀ x ∈ lows a b c d e f, ∀ y ∈ opps a b c d e f, x ≤ y := by
  obtain ⟨h1, h2, h3, h4, h5, h6, h7, h8, h9, h10⟩ := h
  intro x hx y hy
  rw [lows_eq] at hx
  unfold opps at hy
  simp only [List.mem_cons, List.not_mem_nil, or_false] at hx hy
  omega
theorem six_sum {a b c d e f : Int} (h : SixF a b c d e f) : (sixTs a b c d e f).sum = (sixOs a b c d e f).sum := by
  obtain ⟨h1, h2, h3, h4, h5, h6, h7, h8, h9, h10⟩ := h
  unfold sixTs sixOs natL
  rw [lows_eq]
  unfold opps
  simp only [List.map_cons, List.map_nil, List.sum_cons, List.sum_nil]
  omega
theorem six_len (a b c d e f : Int) : (sixTs a b c d e f).length = 4 ∧ (sixOs a b c d e f).length = 3 := ⟨rfl, rfl⟩
theorem nat_ints {l : List Int} (h : ∀ x ∈ l, 0 ≤ x) : l.map V.int = (natL l).map fun n : Nat => V.int (n : Int) := by
  unfold natL
  rw [List.map_map]
  refine List.map_congr_left fun x hx => ?_
  show V.int x = V.int ((x.toNat : Nat) : Int)
  rw [Int.toNat_of_nonneg (h x hx)]
theorem natL_mem {l : List Int} {n : Nat} (h : n ∈ natL l) : ∃ x ∈ l, n = x.toNat := by
  obtain ⟨x, hx, e⟩ := List.mem_map.mp h
  exact ⟨x, hx, e.symm⟩
theorem Srt.nat {L M : List Int} (h : Srt L M) : (natL L).Perm (natL M) := h.1.map _
def prodT (k : Nat) (l : List Nat) : Nat := prodF (l.map fun t => k - t)
def prodO (k : Nat) (l : List Nat) : Nat := prodF (l.map fun o => o - k)
theorem mem_le_sum : ∀ {l : List Nat} {x : Nat}, x ∈ l → x ≤ l.sum
  | y :: l, x, h => by
    rw [List.sum_cons]
    rcases List.mem_cons.mp h with z | z
    · omega
    · have := mem_le_sum z
      omega
theorem prodF_snoc (l : List Nat) (n : Nat) : prodF (l ++ [n]) = prodF l * factN n := by
  rw [prodF_append]
  show _ * (factN n * 1) = _
  rw [Nat.mul_one]
theorem prodF_lt4 {l : List Nat} (h : ∀ n ∈ l, n ≤ 82) : prodF l < 2 ^ (410 * l.length + 1) := by
  induction l with
  | nil => decide
  | cons n l ih =>
    show factN n * prodF l < 2 ^ (410 * (l.length + 1) + 1)
    rw [show 410 * (l.length + 1) + 1 = 410 + (410 * l.length + 1) by omega, Nat.pow_add]
    exact Nat.mul_lt_mul'' (fact81 n (h n (by simp))) (ih fun m hm => h m (List.mem_cons_of_mem _ hm))
section
variable {P : Program} {w : World} {K : PySem.W.Frag} {mg : Str → Option Value} {base : Heap} {f : Addr} {fd : FuncData} {C fI fQ : Addr}
/-! ### need_sizes of a tuple -/
def spNeedSizesT : Sp := fun vs H Q _ => ∃ (l : Addr) (ns : List Int), vs = [.ref l] ∧ H l = some (iv ns) ∧ (∀ n ∈ ns, 0 ≤ n ∧ n ≤ 40) ∧ Q .non H
abbrev nNeedSizesT : List Str := ["things", "thing"]
theorem scNeedSizesT : FnScope nNeedSizesT ["things"] (defScope sNeedSizes) := ⟨rfl, rfl, rfl, by decide +kernel, rfl, by decide +kernel, by decide +kernel⟩
theorem ok_needSizesT {fS : Addr} {fdS : FuncData} (F : FnP K "need_sizes" sNeedSizes f fd) (GS : FnOk P w K mg base CX0 2 fS fdS ["thing"] spIsSize) (bS : L2.Binds K fdS ["thing"] []) (kS : PySem.W.keepIn K (.ref fS) = true) (gS : mg "is_size" = some (.ref fS)) :
    FnOk P w K mg base CX0 3 f fd ["things"] spNeedSizesT := by
  refine F.ok scNeedSizesT (fun vs H Q E h => ?_) (fun cdv A outer s H vs Q E hr h => ?_)
  · obtain ⟨_, _, rfl, _⟩ := h
    rfl
  obtain ⟨l, ns, rfl, hl, hn, q⟩ := h
  have hr2 := hr.mono (j := 2) (by decide)
  refine ⟨_, PSs.nox (pss_one (ps_for PassesOwn.never rfl (pi_tup (pv 0)) (pg_name (i := 1) scNeedSizesT.nd rfl (.inl rfl))
        (pss_one (ps_if (pt_not (pt_val (pe_call GS hr2 (by rfl) gS kS bS .nil pass0 (pa_cons (pv 1) pa_nil)))) pss_never pss_nil)))), ?_⟩
  refine ⟨_, rfl, l, rfl, ⟨_, SqT.of hl⟩, for_tup (xs := ns.map V.int) (fun i σ H' => (∃ v, σ = [some (.ref l), v]) ∧ H' = H) ⟨⟨none, rfl⟩, rfl⟩ (fun i σ H' _ hP => by rw [hP.2]; exact SqT.of hl) (fun i x σ H' hx hP => ?_) (fun σ H' hP => by rw [hP.2]; exact q)⟩
  obtain ⟨⟨v, rfl⟩, rfl⟩ := hP
  obtain ⟨n, e, rfl⟩ := ints_at hx
  obtain ⟨n0, n1⟩ := hn n (List.mem_of_getElem? e)
  exact ⟨_, rfl, n, rfl, n0, n1, true, rfl, iteF ⟨⟨_, rfl⟩, rfl⟩⟩
/-! ### terms_of_six -/
def spTermsSix : Sp := fun vs H Q _ => ∃ (t : Addr) (a b c d e g : Int), vs = [.ref t] ∧ H t = some (iv [a, b, c, d, e, g]) ∧ SixP a b c d e g ∧
  ∀ (D : Addr) H', Same H H' → H D = none → H' D = some (.lst ((sixTL (sixTs a b c d e g) (sixOs a b c d e g)).map V.int)) → Q (.ref D) H'
abbrev nTermsSix : List Str := ["sizes", "triangles", "opposites", "known", "terms", "k", "bottom", "number", "term"]
end
end TC
namespace TC
set_option exponentiation.threshold 20000
open PySem PySem.Spec PyProof.Rows L2 TCA TCX
def ab3 (l : List Int) : List Nat := [((l.getD 0 0 + l.getD 1 0 - l.getD 2 0) / 2).toNat, ((l.getD 0 0 - l.getD 1 0 + l.getD 2 0) / 2).toNat, ((l.getD 1 0 + l.getD 2 0 - l.getD 0 0) / 2).toNat]
def be1 (l : List Int) : Nat := ((l.getD 0 0 + l.getD 1 0 + l.getD 2 0) / 2 + 1).toNat
def sAb (a b c d e f : Int) : List Nat := (quad a b c d e f).flatMap ab3
def sBe (a b c d e f : Int) : List Nat := (quad a b c d e f).map be1
/-- the six, as a root and a fraction -/
def sixL (a b c d e f : Int) : List Part := if Jn a b c d e f = true then oneQ ((rootE (sAb a b c d e f) (sBe a b c d e f) : Nat) : Int) (Rat.divInt (sixS (sixTs a b c d e f) (sixOs a b c d e f)) 1 * Rat.divInt ((topE (sAb a b c d e f) (sBe a b c d e f) : Nat) : Int) ((botE (sAb a b c d e f) (sBe a b c d e f) : Nat) : Int)) else []
theorem quad_b {a b c d e f : Int} (h : SixF a b c d e f) : ∀ l ∈ quad a b c d e f, ∃ x y z, l = [x, y, z] ∧ 0 ≤ x ∧ x ≤ 40 ∧ 0 ≤ y ∧ y ≤ 40 ∧ 0 ≤ z ∧ z ≤ 40 ∧ x ≤ y + z ∧ y ≤ x + z ∧ z ≤ x + y ∧ (x + y + z) % 2 = 0 := by
  obtain ⟨h1, h2, h3, h4, h5, h6, h7, h8, h9, h10⟩ := h
  intro l hl
  unfold quad at hl
  simp only [List.mem_cons, List.not_mem_nil, or_false] at hl
  rcases hl with rfl | rfl | rfl | rfl
  · exact ⟨_, _, _, rfl, by omega, by omega, by omega, by omega, by omega, by omega, by omega, by omega, by omega, by omega⟩
  · exact ⟨_, _, _, rfl, by omega, by omega, by omega, by omega, by omega, by omega, by omega, by omega, by omega, by omega⟩
  · exact ⟨_, _, _, rfl, by omega, by omega, by omega, by omega, by omega, by omega, by omega, by omega, by omega, by omega⟩
  · exact ⟨_, _, _, rfl, by omega, by omega, by omega, by omega, by omega, by omega, by omega, by omega, by omega, by omega⟩
theorem sAb_lt {a b c d e f : Int} (h : SixF a b c d e f) : ∀ n ∈ sAb a b c d e f, n < 42 := by
  intro n hn
  obtain ⟨l, hl, hn⟩ := List.mem_flatMap.mp hn
  obtain ⟨x, y, z, rfl, _⟩ := quad_b h l hl
  have e : ab3 [x, y, z] = [((x + y - z) / 2).toNat, ((x - y + z) / 2).toNat, ((y + z - x) / 2).toNat] := rfl
  rw [e] at hn
  simp only [List.mem_cons, List.not_mem_nil, or_false] at hn
  omega
theorem sBe_lt {a b c d e f : Int} (h : SixF a b c d e f) : ∀ n ∈ sBe a b c d e f, n < 62 := by
  intro n hn
  obtain ⟨l, hl, rfl⟩ := List.mem_map.mp hn
  obtain ⟨x, y, z, rfl, _⟩ := quad_b h l hl
  show ((x + y + z) / 2 + 1).toNat < 62
  omega
theorem sAb_len (a b c d e f : Int) : (sAb a b c d e f).length = 12 := rfl
theorem sBe_len (a b c d e f : Int) : (sBe a b c d e f).length = 4 := rfl
theorem fit_six {a b c d e f : Int} (h : SixF a b c d e f) : Fit (botE (sAb a b c d e f) (sBe a b c d e f)) 2000 200 (rootL (sAb a b c d e f) (sBe a b c d e f)) := by
  refine fit_abs (rootE_sqF _ _).pos (topE_pos _ _) (botE_pos _ _) (topE_cop _ _) ?_ (rootE_lt _ _)
  exact Nat.lt_of_le_of_lt (topE_le fun n hn => by have := sAb_lt h n hn; omega) (Nat.lt_of_lt_of_le (prodF_lt2' (sAb_lt h)) (Nat.pow_le_pow_right (by decide) (by rw [sAb_len]; decide)))
theorem botS_lt {a b c d e f : Int} (h : SixF a b c d e f) : botE (sAb a b c d e f) (sBe a b c d e f) < 2 ^ 1500 :=
  Nat.lt_of_le_of_lt (botE_le fun n hn => by have := sBe_lt h n hn; omega) (Nat.lt_of_lt_of_le (prodF_lt (sBe_lt h)) (Nat.pow_le_pow_right (by decide) (by rw [sBe_len]; decide)))
theorem get4 {H : Hp} {t1 t2 t3 t4 : Addr} {a b c d e g : Int} (q1 : H t1 = some (iv [a, b, c])) (q2 : H t2 = some (iv [a, e, g])) (q3 : H t3 = some (iv [d, b, g])) (q4 : H t4 = some (iv [d, e, c])) (i : Nat) (x : V) (hx : ([.ref t1, .ref t2, .ref t3, .ref t4] : List V)[i]? = some x) : ∃ u l, x = .ref u ∧ H u = some (iv l) ∧ (quad a b c d e g)[i]? = some l := by
  match i, hx with
  | 0, hx => exact ⟨t1, _, (Option.some.inj hx).symm, q1, rfl⟩
  | 1, hx => exact ⟨t2, _, (Option.some.inj hx).symm, q2, rfl⟩
  | 2, hx => exact ⟨t3, _, (Option.some.inj hx).symm, q3, rfl⟩
  | 3, hx => exact ⟨t4, _, (Option.some.inj hx).symm, q4, rfl⟩
  | n + 4, hx => cases hx
section
variable {P : Program} {w : World} {K : PySem.W.Frag} {mg : Str → Option Value} {base : Heap} {f : Addr} {fd : FuncData} {C fI fQ : Addr}
/-! ### six_number -/
def spSixN (C : Addr) : Sp := fun vs H Q _ => ∃ (t : Addr) (a b c d e g : Int), vs = [.ref t] ∧ H t = some (iv [a, b, c, d, e, g]) ∧ (∀ x ∈ [a, b, c, d, e, g], 0 ≤ x ∧ x ≤ 40) ∧
  ∀ (x : Addr) H', Same H H' → H x = none → NumAt C H' x (sixL a b c d e g) → Q (.ref x) H'
abbrev nSixN : List Str := ["sizes", "triangles", "above", "below", "x", "y", "z"]
end
end TC
namespace TC
set_option exponentiation.threshold 20000
open PySem PySem.Spec PyProof.Rows L2 TCA TCX
def pairsL (l : List Int) : List (Int × Int) := l.map fun x => (x, 1)
theorem six_len1 (a b c d e f : Int) : (sixL a b c d e f).length ≤ 1 := by
  unfold sixL oneQ
  split
  · split
    · decide
    · exact Nat.le_refl 1
  · decide
end TC
namespace TC
open PySem PySem.Spec PyProof.Rows L2 TCA TCX
/-! ### forms as data -/
def dT (L : List Int) : PyData := .tuple (dInts L)
def dForm (L1 L2 : List Int) : PyData := .tuple [dT L1, dT L2]
theorem FormT.dp {K : PySem.W.Frag} {H : Hp} {r : Addr} {L1 L2 : List Int} (h : FormT H r L1 L2) : Dp K H (.ref r) (dForm L1 L2) := by
  obtain ⟨r1, r2, a, b, c⟩ := h
  exact .tup (SqT.of a) (.cons (.tup (SqT.of b) (dpAll_ints L1)) (.cons (.tup (SqT.of c) (dpAll_ints L2)) .nil))
theorem ints_lay : ∀ L : List Int, PyData.canLayAll0 (dInts L) = true ∧ PyData.depthAll (dInts L) ≤ 0
  | [] => ⟨rfl, Nat.le_refl _⟩
  | x :: L => by
    obtain ⟨h1, h2⟩ := ints_lay L
    refine ⟨?_, ?_⟩
    · show (PyData.canLay0 (.int x) && PyData.canLayAll0 (dInts L)) = true
      rw [h1]
      rfl
    · show max (PyData.depth (.int x)) (PyData.depthAll (dInts L)) ≤ 0
      exact Nat.max_le.mpr ⟨Nat.le_refl 0, h2⟩
theorem form_shaped (L1 L2 : List Int) : SeqAt.shaped (dForm L1 L2) = true := by
  obtain ⟨a1, a2⟩ := ints_lay L1
  obtain ⟨b1, b2⟩ := ints_lay L2
  show ((PyData.canLayAll0 (dInts L1) && (PyData.canLayAll0 (dInts L2) && true)) && decide (max (PyData.depthAll (dInts L1) + 1) (max (PyData.depthAll (dInts L2) + 1) 0) + 1 ≤ 64)) = true
  rw [a1, b1, decide_eq_true (by omega)]
  rfl
theorem ints_eqv : ∀ L M : List Int, PyData.eqvAll (dInts L) (dInts M) = decide (L = M)
  | [], [] => rfl
  | [], _ :: _ => rfl
  | _ :: _, [] => rfl
  | x :: L, y :: M => by
    show (PyData.eqv (.int x) (.int y) && PyData.eqvAll (dInts L) (dInts M)) = _
    rw [ints_eqv L M]
    simp only [PyData.eqv]
    by_cases h1 : x = y <;> by_cases h2 : L = M <;> simp [h1, h2]
theorem form_eqv (L1 L2 M1 M2 : List Int) : PyData.eqv (dForm L1 L2) (dForm M1 M2) = (decide (L1 = M1) && decide (L2 = M2)) := by
  show (PyData.eqvAll (dInts L1) (dInts M1) && (PyData.eqvAll (dInts L2) (dInts M2) && true)) = _
  rw [ints_eqv, ints_eqv, Bool.and_true]
end TC
namespace TCX
open PySem PySem.Spec PyProof.Rows L2
/-- a promise kept as it is said: the unifier does not open it -/
structure Box (sp : Sp) (vs : List V) (H : Hp) (Q : VK) (E : XK) : Prop where
  out : sp vs H Q E
theorem boxed {P : Program} {w : World} {K : PySem.W.Frag} {mg : Str → Option Value} {base : Heap} {CX : CXT} {k : Nat} {f : Addr} {fd : FuncData} {ps : List Str} {sp : Sp} (F : FnOk P w K mg base CX k f fd ps sp) : FnOk P w K mg base CX k f fd ps (Box sp) :=
  ⟨fun vs H Q E h => F.len vs H Q E h.out, fun A outer s H args us vs Q E hr he hb hv hs => F.run A outer s H args us vs Q E hr he hb hv hs.out⟩
end TCX
namespace TC
open PySem PySem.Spec PyProof.Rows L2 TCA TCX
theorem fits_can (a b c : Int) : fitsB a b c = canB a b c := by
  rw [Bool.eq_iff_iff, fits_iff, canB_iff]
  omega
/-- the four triangles, a list -/
def QuadL (H : Hp) (r : Addr) (a b c d e f : Int) : Prop := ∃ t1 t2 t3 t4, H r = some (.lst [.ref t1, .ref t2, .ref t3, .ref t4]) ∧ H t1 = some (iv [a, b, c]) ∧ H t2 = some (iv [a, e, f]) ∧ H t3 = some (iv [d, b, f]) ∧ H t4 = some (iv [d, e, c])
section
variable {P : Program} {w : World} {K : PySem.W.Frag} {mg : Str → Option Value} {base : Heap} {f : Addr} {fd : FuncData} {CS CT : Addr}
/-! ### _law_triples -/
def spTriples : Sp := fun vs H Q _ => ∃ (t : Addr) (a b c d e g : Int), vs = [.ref t] ∧ H t = some (iv [a, b, c, d, e, g]) ∧ ∀ r H', Same H H' → H r = none → QuadL H' r a b c d e g → Q (.ref r) H'
abbrev nTriples : List Str := ["_law_sizes_here", "_law_a", "_law_b", "_law_c", "_law_d", "_law_e", "_law_f"]
end
end TC
namespace TC
open PySem PySem.Spec PyProof.Rows L2 TCA TCX
theorem quad_get {H : Hp} {t1 t2 t3 t4 : Addr} {a b c d e g : Int} (q1 : H t1 = some (iv [a, b, c])) (q2 : H t2 = some (iv [a, e, g])) (q3 : H t3 = some (iv [d, b, g])) (q4 : H t4 = some (iv [d, e, c])) (i : Nat) (x : V) (hx : ([.ref t1, .ref t2, .ref t3, .ref t4] : List V)[i]? = some x) : ∃ u l, x = .ref u ∧ H u = some (iv l) ∧ (quad a b c d e g)[i]? = some l ∧ u ∈ [t1, t2, t3, t4] := by
  match i, hx with
  | 0, hx => exact ⟨t1, _, (Option.some.inj hx).symm, q1, rfl, by simp⟩
  | 1, hx => exact ⟨t2, _, (Option.some.inj hx).symm, q2, rfl, by simp⟩
  | 2, hx => exact ⟨t3, _, (Option.some.inj hx).symm, q3, rfl, by simp⟩
  | 3, hx => exact ⟨t4, _, (Option.some.inj hx).symm, q4, rfl, by simp⟩
  | n + 4, hx => cases hx
theorem quad_three {a b c d e g : Int} {i : Nat} {l : List Int} (h : (quad a b c d e g)[i]? = some l) : ∃ x y z, l = [x, y, z] := by
  match i, h with
  | 0, h => exact ⟨_, _, _, (Option.some.inj h).symm⟩
  | 1, h => exact ⟨_, _, _, (Option.some.inj h).symm⟩
  | 2, h => exact ⟨_, _, _, (Option.some.inj h).symm⟩
  | 3, h => exact ⟨_, _, _, (Option.some.inj h).symm⟩
  | n + 4, h => cases h
def fit3 (l : List Int) : Bool := canB (l.getD 0 0) (l.getD 1 0) (l.getD 2 0)
theorem jn_all (a b c d e g : Int) : Jn a b c d e g = (quad a b c d e g).all fit3 := by
  simp [Jn, quad, fit3]
section
variable {P : Program} {w : World} {K : PySem.W.Frag} {mg : Str → Option Value} {base : Heap} {f : Addr} {fd : FuncData}
/-! ### _law_halved -/
def spHalved : Sp := fun vs H Q _ => ∃ (t : Addr) (a b c d e g : Int), vs = [.ref t] ∧ H t = some (iv [a, b, c, d, e, g]) ∧ ∀ r l1 l2 H', Same H H' → H' r = some (.tup [.ref l1, .ref l2]) → H' l1 = some (.lst ((lows a b c d e g).map V.int)) → H' l2 = some (.lst ((opps a b c d e g).map V.int)) → Q (.ref r) H'
abbrev nHalved : List Str := ["_law_sizes_here", "_law_a", "_law_b", "_law_c", "_law_d", "_law_e", "_law_f", "_law_opposite", "_law_some"]
end
end TC
namespace TC
open PySem PySem.Spec PyProof.Rows L2 TCA TCX
section
variable {P : Program} {w : World} {K : PySem.W.Frag} {mg : Str → Option Value} {base : Heap} {f : Addr} {fd : FuncData}
/-! ### _law_all_fit -/
/-- the tuples kept: addresses and what they hold -/
def KeptAt (H : Hp) : List Addr → List (List Int) → Prop
  | [], [] => True
  | u :: us, l :: ls => H u = some (iv l) ∧ KeptAt H us ls
  | _, _ => False
theorem KeptAt.same {H H' : Hp} (s : Same H H') : ∀ {us : List Addr} {ls : List (List Int)}, KeptAt H us ls → KeptAt H' us ls
  | [], [], _ => trivial
  | _ :: _, _ :: _, h => ⟨s _ _ h.1, KeptAt.same s h.2⟩
  | [], _ :: _, h => h
  | _ :: _, [], h => h
theorem KeptAt.len {H : Hp} : ∀ {us : List Addr} {ls : List (List Int)}, KeptAt H us ls → us.length = ls.length
  | [], [], _ => rfl
  | _ :: _, _ :: _, h => congrArg (· + 1) h.2.len
  | [], _ :: _, h => h.elim
  | _ :: _, [], h => h.elim
theorem KeptAt.snoc {H : Hp} {u : Addr} {l : List Int} (hu : H u = some (iv l)) : ∀ {us : List Addr} {ls : List (List Int)}, KeptAt H us ls → KeptAt H (us ++ [u]) (ls ++ [l])
  | [], [], _ => ⟨hu, trivial⟩
  | _ :: _, _ :: _, h => ⟨h.1, KeptAt.snoc hu h.2⟩
  | [], _ :: _, h => h.elim
  | _ :: _, [], h => h.elim
theorem KeptAt.dp {H : Hp} : ∀ {us : List Addr} {ls : List (List Int)}, KeptAt H us ls → DpAll K H (us.map V.ref) (ls.map dT)
  | [], [], _ => .nil
  | _ :: _, l :: _, h => .cons (.tup (SqT.of h.1) (dpAll_ints l)) (KeptAt.dp h.2)
  | [], _ :: _, h => h.elim
  | _ :: _, [], h => h.elim
theorem kept_lay : ∀ ls : List (List Int), PyData.canLayAll0 (ls.map dT) = true ∧ PyData.depthAll (ls.map dT) ≤ 1
  | [] => ⟨rfl, Nat.zero_le _⟩
  | x :: L => by
    obtain ⟨h1, h2⟩ := kept_lay L
    obtain ⟨a1, a2⟩ := ints_lay x
    refine ⟨?_, ?_⟩
    · show (PyData.canLayAll0 (dInts x) && PyData.canLayAll0 (L.map dT)) = true
      rw [h1, a1]
      rfl
    · show max (PyData.depthAll (dInts x) + 1) (PyData.depthAll (L.map dT)) ≤ 1
      exact Nat.max_le.mpr ⟨by omega, h2⟩
theorem kept_shaped (ls : List (List Int)) : SeqAt.shaped (.list (ls.map dT)) = true := by
  obtain ⟨h1, h2⟩ := kept_lay ls
  show (PyData.canLayAll0 (ls.map dT) && decide (PyData.depthAll (ls.map dT) + 1 ≤ 64)) = true
  rw [h1, decide_eq_true (by omega)]
  rfl
theorem kept_eqv (ls : List (List Int)) : PyData.eqv (.list (ls.map dT)) (.list []) = decide (ls = []) := by
  cases ls with
  | nil => rfl
  | cons x L => rfl
def spAllFit : Sp := fun vs H Q _ => ∃ (t : Addr) (a b c d e g : Int), vs = [.ref t] ∧ H t = some (iv [a, b, c, d, e, g]) ∧ ∀ H', Same H H' → Q (.bl (Jn a b c d e g)) H'
abbrev nAllFit : List Str := ["_law_sizes_here", "_law_some"]
end
end TC
namespace TC
open PySem PySem.Spec PyProof.Rows L2 TCA TCX
section
variable {P : Program} {w : World} {K : PySem.W.Frag} {mg : Str → Option Value} {base : Heap} {f fD fT : Addr} {fd fdD fdT : FuncData}
/-! ### _law_sizes -/
def spSizesL : Sp := fun vs H Q _ => ∃ (p c : Addr) (ms : List Int) (n h : Int), vs = [.ref p, .int h] ∧ PenAt H p c ms n ∧ 0 ≤ n ∧ n ≤ 800000 ∧ 0 ≤ h ∧ h ≤ 100 ∧
  ∀ (r : Addr) (a b d n' : Int) H', 0 ≤ a → a ≤ h → 0 ≤ b → b ≤ h → d ∈ thirdL a b h → n ≤ n' → n' ≤ n + 3 → PenAt H' p c ms n' → SameBut p H H' → H' r = some (iv [a, b, d]) → Q (.ref r) H'
abbrev nSizesL : List Str := ["_law_pen_here", "_law_high", "_law_a", "_law_b"]
end
end TC
namespace TC
open PySem PySem.Spec PyProof.Rows L2 TCA TCX
theorem third_ok {a b h d : Int} (a0 : 0 ≤ a) (a1 : a ≤ h) (b0 : 0 ≤ b) (b1 : b ≤ h) (hd : d ∈ thirdL a b h) : 0 ≤ d ∧ d ≤ h ∧ canB a b d = true := by
  unfold thirdL at hd
  rw [if_neg (by split <;> omega), List.append_nil, fitL_mem] at hd
  rw [← fits_can]
  exact ⟨hd.1, by omega, hd.2.2⟩
def dL (b f e c : Int) (k : Nat) : List Int := ((List.range k).map fun i => (0 : Int) + (i : Nat)).filter fun d => fitsB d b f && fitsB d e c
theorem dL_succ (b f e c : Int) (k : Nat) : dL b f e c (k + 1) = dL b f e c k ++ (if (fitsB (0 + (k : Nat)) b f && fitsB (0 + (k : Nat)) e c) = true then [0 + ((k : Nat) : Int)] else []) := by
  unfold dL
  rw [List.range_succ, List.map_append, List.filter_append]
  congr 1
  simp only [List.map_cons, List.map_nil, List.filter_cons, List.filter_nil]
theorem dL_len (b f e c : Int) (k : Nat) : (dL b f e c k).length ≤ k := by
  unfold dL
  refine Nat.le_trans (List.length_filter_le _ _) ?_
  rw [List.length_map, List.length_range]
  exact Nat.le_refl _
theorem dL_mem {b f e c x : Int} {k : Nat} (h : x ∈ dL b f e c k) : 0 ≤ x ∧ x < k := by
  unfold dL at h
  rw [List.mem_filter, List.mem_map] at h
  obtain ⟨⟨i, hi, rfl⟩, _⟩ := h
  have := List.mem_range.mp hi
  omega
theorem ints_eqv_nil (L : List Int) : PyData.eqv (.list (dInts L)) (.list []) = decide (L = []) := ints_eqv L []
theorem ints_shaped (L : List Int) : SeqAt.shaped (.list (dInts L)) = true := by
  obtain ⟨a1, a2⟩ := ints_lay L
  show (PyData.canLayAll0 (dInts L) && decide (PyData.depthAll (dInts L) + 1 ≤ 64)) = true
  rw [a1, decide_eq_true (by omega)]
  rfl
theorem pickI (vs : List Int) {d : Int} (h0 : 0 ≤ d) (h1 : d < vs.length) : ∃ v, v ∈ vs ∧ atI (vs.map V.int) d = some (.int v) := by
  have hk : d.toNat < vs.length := by omega
  refine ⟨vs[d.toNat], List.getElem_mem hk, ?_⟩
  have z := atI_nat (xs := vs.map V.int) (j := d.toNat) (v := .int vs[d.toNat]) (by rw [List.getElem?_map]; simp [hk])
  have e : ((d.toNat : Nat) : Int) = d := by omega
  rw [e] at z
  exact z
section
variable {P : Program} {w : World} {K : PySem.W.Frag} {mg : Str → Option Value} {base : Heap} {f fD fT fF fZ : Addr} {fd fdD fdT fdF fdZ : FuncData}
/-! ### _law_six_sizes -/
def In (h : Int) (l : List Int) : Prop := ∀ x ∈ l, 0 ≤ x ∧ x ≤ h
def spSix : Sp := fun vs H Q _ => ∃ (p c : Addr) (ms : List Int) (n h : Int), vs = [.ref p, .int h] ∧ PenAt H p c ms n ∧ 0 ≤ n ∧ n ≤ 700000 ∧ 0 ≤ h ∧ h ≤ 100 ∧
  ∀ (r : Addr) (a b c' d e g n' : Int) H', In h [a, b, c', d, e, g] → canB a b c' = true → n ≤ n' → n' ≤ n + 6 → PenAt H' p c ms n' → SameBut p H H' → H' r = some (iv [a, b, c', d, e, g]) → Q (.ref r) H'
abbrev nSix : List Str := ["_law_pen_here", "_law_high", "_law_a", "_law_b", "_law_c", "_law_f", "_law_e", "_law_some", "_law_d"]
end
end TC
namespace TC
open PySem PySem.Spec PyProof.Rows L2 TCA
theorem add_frac (p u : Rat) : Rat.divInt (p.num * (u.den : Int) + u.num * (p.den : Int)) ((p.den : Int) * (u.den : Int)) = p + u := by
  have h1 : (p.den : Int) ≠ 0 := by
    have := p.den_pos
    omega
  have h2 : (u.den : Int) ≠ 0 := by
    have := u.den_pos
    omega
  have z := Rat.divInt_add_divInt p.num u.num h1 h2
  rw [Rat.num_divInt_den, Rat.num_divInt_den] at z
  exact z.symm
theorem neg_frac (p : Rat) : Rat.divInt (p.num * -1) ((p.den : Int) * 1) = -p := by
  have z := Rat.num_divInt_den (-p)
  rw [Rat.neg_num, Rat.neg_den] at z
  rw [← z, Int.mul_one]
  congr 1
  omega
theorem natabs_mul_lt {i j : Int} {A B : Nat} (h1 : i.natAbs < 2 ^ A) (h2 : j.natAbs < 2 ^ B) : (i * j).natAbs < 2 ^ (A + B) := wide_lt h1 h2
theorem lowL_fra {t b : Int} {q : Rat} (hb : b ≠ 0) (e : Rat.divInt t b = q) : (HO.tup [.int (TCM.lowL t b).1, .int (TCM.lowL t b).2]) = fraV q := by
  rw [TCR.lowL_rat t b hb, e]
  rfl
set_option exponentiation.threshold 2000 in
theorem lt1000 {n : Int} {A : Nat} (h : n.natAbs < 2 ^ A) (hA : A ≤ 1000) : n.natAbs < 2 ^ 1000 := Nat.lt_of_lt_of_le h (Nat.pow_le_pow_right (by decide) hA)
section
variable {P : Program} {w : World} {K : PySem.W.Frag} {mg : Str → Option Value} {base : Heap} {f : Addr} {fd : FuncData} {C fI fQ : Addr}
/-! ### _law_sum -/
def spSum : Sp := fun vs H Q _ => ∃ (d1 d2 : Addr) (k1 k2 : List Int) (g1 g2 : Int → Rat) (A B : Nat), vs = [.ref d1, .ref d2] ∧ DictAt H d1 k1 g1 ∧ DictAt H d2 k2 g2 ∧ (∀ r, TCR.Sz A (g1 r)) ∧ (∀ r, TCR.Sz B (g2 r)) ∧ 0 < A ∧ 0 < B ∧ A + B ≤ 8000 ∧ k1.length + k2.length ≤ 900 ∧
  ∀ d' ks' H', Same H H' → H d' = none → DictAt H' d' ks' (fun r => g1 r + g2 r) → Clear ks' (fun r => g1 r + g2 r) → ks'.length ≤ k1.length + k2.length → (∀ r ∈ ks', r ∈ k1 ∨ r ∈ k2) → Q (.ref d') H'
theorem scSum : FnScope ["_law_one", "_law_other", "_law_found", "_law_r", "_law_p", "_law_q", "_law_u", "_law_v"] ["_law_one", "_law_other"] (defScope sSum) := ⟨rfl, rfl, rfl, by decide +kernel, rfl, by decide +kernel, by decide +kernel⟩
theorem ok_sum {fL fC : Addr} {fdL fdC : FuncData} (F : FnP K "_law_sum" sSum f fd) (GL : FnOk P w K mg base CX0 1 fL fdL ["_law_up", "_law_under"] spLowL) (bL : L2.Binds K fdL ["_law_up", "_law_under"] []) (kL : PySem.W.keepIn K (.ref fL) = true) (gL : mg "_law_low" = some (.ref fL))
    (GC : FnOk P w K mg base CX0 1 fC fdC ["_law_some"] spCleared) (bC : L2.Binds K fdC ["_law_some"] []) (kC : PySem.W.keepIn K (.ref fC) = true) (gC : mg "_law_cleared" = some (.ref fC)) (gd : mg "dict" = none) : FnOk P w K mg base CX0 2 f fd ["_law_one", "_law_other"] spSum := by
  refine F.ok scSum (fun vs H Q E h => ?_) (fun cdv Ar outer s H vs Q E hr h => ?_)
  · obtain ⟨d1, d2, k1, k2, g1, g2, A, B, rfl, _⟩ := h
    rfl
  · obtain ⟨d1, d2, k1, k2, g1, g2, A, B, rfl, h1, h2, z1, z2, A0, B0, AB, len, q⟩ := h
    have hu := hu_of hr
    refine ⟨_, PSs.nox (pss_cons (ps_set (i := 2) scSum.nd rfl (.inl rfl) (pe_callTy call_dictD (by rfl) gd (by decide +kernel) (pa_cons (pv 0) pa_nil)))
      (pss_cons (ps_lock (ps_for PassesOwn.never rfl (pi_keys (pv 1)) (pg_name (i := 3) scSum.nd rfl (.inl rfl))
        (pss_cons (ps_asg (pe_tup (pa_cons (pe_dget2 hu (pv 2) (pv 3) (pe_tup (pa_cons pe_int (pa_cons pe_int pa_nil))) ⟨rfl, rfl, rfl, rfl⟩) (pa_cons (pe_dget hu (pv 1) (pv 3) (fun _ _ => rfl)) pa_nil)))
            (pg_tup rfl (pgs_cons (pg_tup rfl (pgs_cons (pg_name (i := 4) scSum.nd rfl (.inl rfl)) (pgs_cons (pg_name (i := 5) scSum.nd rfl (.inl rfl)) pgs_nil))) (pgs_cons (pg_tup rfl (pgs_cons (pg_name (i := 6) scSum.nd rfl (.inl rfl)) (pgs_cons (pg_name (i := 7) scSum.nd rfl (.inl rfl)) pgs_nil))) pgs_nil))))
        (pss_one (ps_dput hu (pv 2) (pv 3) (pe_call GL hr (by rfl) gL kL bL .nil pass0 (pa_cons (pe_op op_add (pe_op op_mulW (pv 4) (pv 7)) (pe_op op_mulW (pv 6) (pv 5))) (pa_cons (pe_op op_mulW (pv 5) (pv 7)) pa_nil))) rfl)))))
      (pss_one (ps_ret (pe_call GC hr (by rfl) gC kC bC .nil pass0 (pa_cons (pv 2) pa_nil)))))), ?_⟩
    obtain ⟨kv1, a1, a2, a3, a4, a5⟩ := id h1
    obtain ⟨kv2, b1, b2, b3, b4, b5⟩ := id h2
    refine ⟨_, rfl, d1, kv1, rfl, .inl a1, fun p hp => ?_⟩
    have smp := same_upd (o := .dK kv1) hp
    have npd : p ≠ d2 := (ne_of_none b1 hp).symm
    refine ⟨d2, .dK kv2, smp _ _ b1, trivial, fun od => ?_⟩
    refine ⟨_, rfl, d2, od, rfl, .inl ⟨kv2, upd_same, ?_⟩⟩
    have nud : ∀ {u : Addr} {q : Rat}, H u = some (fraV q) → u ≠ d2 := fun {u q} hu z => by
      rw [z, b1] at hu
      cases hu
    refine for_it (walk_keys (d := d2) (o := od) (kvs := kv2)) (fun i σ H' => ∃ (v3 v4 v5 v6 v7 : Option V) (ks' : List Int), σ = [some (.ref d1), some (.ref d2), some (.ref p), v3, v4, v5, v6, v7] ∧ H' d2 = some (.frz od (.dK kv2)) ∧ (∀ b o, H b = some o → b ≠ d2 → H' b = some o) ∧
        DictAt H' p ks' (fun r => g1 r + if r ∈ k2.take i then g2 r else 0) ∧ ks'.length ≤ k1.length + i ∧ (∀ r ∈ ks', r ∈ k1 ∨ r ∈ k2))
      ⟨none, none, none, none, none, k1, rfl, upd_same, fun b o e hb => by rw [upd_ne hb]; exact smp _ _ e, ?_, Nat.le_refl _, fun r hr => .inl hr⟩ (fun i σ H' _ hP => ?_) (fun i x σ H' H2 hi hP hy => ?_) (fun σ H' hP => ?_)
    · refine ⟨kv1, by rw [upd_ne npd, upd_same], a2, fun r hr => ?_, a4, fun r hr => ?_⟩
      · obtain ⟨u, a, b⟩ := a3 r hr
        refine ⟨u, a, ?_⟩
        rw [upd_ne (nud b), smp _ _ b]
        show some (fraV (g1 r)) = some (fraV (g1 r + if r ∈ k2.take 0 then g2 r else 0))
        rw [List.take_zero, if_neg (by simp)]
        congr 2
        grind
      · show g1 r + (if r ∈ k2.take 0 then g2 r else 0) = 0
        rw [a5 r hr, List.take_zero, if_neg (by simp)]
        grind
    · obtain ⟨_, _, _, _, _, _, _, z, _⟩ := hP
      exact z
    · obtain ⟨rfl, k, v, hkv, rfl⟩ := hy
      obtain ⟨v3, v4, v5, v6, v7, ks', rfl, hfz, keep, hp', l', sub⟩ := hP
      obtain ⟨r, hr', rfl⟩ := key_at b2 hkv
      have rk : r ∈ k2 := List.mem_of_getElem? hr'
      have rnt : r ∉ k2.take i := nd_not_take b4 hr'
      have il : i < k2.length := (List.getElem?_eq_some_iff.mp hr').1
      obtain ⟨u, ua, ub⟩ := b3 r rk
      have bu := keep _ _ ub (nud ub)
      have eg : (fun r => g1 r + if r ∈ k2.take i then g2 r else 0) r = g1 r := by
        show g1 r + (if r ∈ k2.take i then g2 r else 0) = g1 r
        rw [if_neg rnt]
        grind
      -- what stands in found, or (0, 1)
      obtain ⟨kvp, p1, p2, p3, p4, p5⟩ := id hp'
      refine ⟨_, rfl, p, rfl, .inl ⟨_, .inl p1⟩, _, rfl, by show 2 ≤ sizeLine; decide, fun c0 hc0 => ?_⟩
      have sm0 := same_upd (o := .tup [.int 0, .int 1]) hc0
      have got : ∃ (o : Option V) (u0 : Addr), DGet (upd H2 c0 (.tup [.int 0, .int 1])) p (.int r) o ∧ o.getD (.ref c0) = .ref u0 ∧ (upd H2 c0 (.tup [.int 0, .int 1])) u0 = some (fraV (g1 r)) := by
        by_cases hk : r ∈ ks'
        · obtain ⟨u0, x1, x2⟩ := p3 r hk
          rw [eg] at x2
          exact ⟨some (.ref u0), u0, dget_in (sm0 _ _ p1) x1, rfl, sm0 _ _ x2⟩
        · have e0 : g1 r = 0 := eg.symm.trans (p5 r hk)
          exact ⟨none, c0, dget_out (sm0 _ _ p1) (valV_out p2 hk), rfl, by rw [upd_same, e0]; rfl⟩
      obtain ⟨o, u0, dg, eo, hu0⟩ := got
      refine ⟨o, dg, ?_⟩
      rw [eo]
      refine ⟨_, rfl, _, rfl, d2, _, rfl, dget_rd (.inr ⟨od, sm0 _ _ hfz⟩) ua, by show 2 ≤ sizeLine; decide, fun c1 hc1 => ?_⟩
      have sm1 := same_upd (o := .tup [.ref u0, .ref u]) hc1
      refine ⟨c1, _, rfl, SqT.of upd_same, rfl, _, _, rfl, u0, _, rfl, SqT.of (sm1 _ _ hu0), rfl, _, _, rfl, _, _, rfl, rfl, _, _, rfl, u, _, rfl, SqT.of (sm1 _ _ (sm0 _ _ bu)), rfl, _, _, rfl, _, _, rfl, rfl, rfl, ?_⟩
      have y1 := z1 r
      have y2 := z2 r
      have dn1 : ((g1 r).den : Int).natAbs < 2 ^ A := by rw [Int.natAbs_natCast]; exact y1.2
      have dn2 : ((g2 r).den : Int).natAbs < 2 ^ B := by rw [Int.natAbs_natCast]; exact y2.2
      have bne : ((g1 r).den : Int) * ((g2 r).den : Int) ≠ 0 := by
        have e1 := (g1 r).den_pos
        have e2 := (g2 r).den_pos
        exact Int.mul_ne_zero (by omega) (by omega)
      refine ⟨_, rfl, _, rfl, (g1 r).num, ((g2 r).den : Int), rfl, rfl, cmulw y1.1 dn2 A0 B0 (by omega), _, rfl, _, rfl, (g2 r).num, ((g1 r).den : Int), rfl, rfl, cmulw y2.1 dn1 B0 A0 (by omega), _, _, rfl, rfl, _, rfl, _, rfl, ((g1 r).den : Int), ((g2 r).den : Int), rfl, rfl, cmulw dn1 dn2 A0 B0 (by omega), ?_⟩
      refine ⟨_, _, A + B, rfl, bne, natabs_mul_lt dn1 dn2, by omega, by omega, fun c2 hc2 => ?_⟩
      rw [lowL_fra bne (add_frac (g1 r) (g2 r))]
      have sm2 := same_upd (o := fraV (g1 r + g2 r)) hc2
      have smA := (sm0.trans sm1).trans sm2
      obtain ⟨kvq, q1, q2, q3, q4, q5⟩ := hp'.same smA
      refine ⟨_, rfl, _, rfl, p, _, rfl, DPut.k (k := Sum.inl r) q1 (small1000 (by rw [len_keys q2]; omega)), ?_⟩
      refine ⟨_, _, _, _, _, addKey ks' r, rfl, by rw [upd_ne npd.symm]; exact smA _ _ hfz, fun b o e hb => ?_, ?_, Nat.le_trans (addKey_len ks' r) (by omega), fun s hs => ?_⟩
      · rw [upd_ne (ne_of_none e hp)]
        exact smA _ _ (keep b o e hb)
      · refine (put_ok (r := r) (q := g1 r + g2 r) q1 q2 q3 q4 q5 upd_same).imp fun s => ?_
        unfold setF
        by_cases es : s = r
        · rw [if_pos es, es, if_pos ((mem_take_succ hr').mpr (.inr rfl))]
        · rw [if_neg es]
          have em : (s ∈ k2.take (i + 1)) ↔ s ∈ k2.take i := ⟨fun m => ((mem_take_succ hr').mp m).resolve_right es, fun m => (mem_take_succ hr').mpr (.inl m)⟩
          show g1 s + (if s ∈ k2.take i then g2 s else 0) = g1 s + (if s ∈ k2.take (i + 1) then g2 s else 0)
          by_cases m : s ∈ k2.take i
          · rw [if_pos m, if_pos (em.mpr m)]
          · rw [if_neg m, if_neg fun z => m (em.mp z)]
      · rcases mem_addKey.mp hs with m | m
        · exact sub s m
        · rw [m]
          exact .inr rk
    · obtain ⟨v3, v4, v5, v6, v7, ks', rfl, hfz, keep, hp', l', sub⟩ := hP
      have lk := len_keys b2
      refine ⟨hfz, ?_⟩
      have smf : Same H (upd H' d2 (.dK kv2)) := fun b o e => by
        by_cases hb : b = d2
        · rw [hb, upd_same]
          rw [hb, b1] at e
          exact e
        · rw [upd_ne hb]
          exact keep b o e hb
      have hpf : DictAt (upd H' d2 (.dK kv2)) p ks' (fun r => g1 r + g2 r) := by
        obtain ⟨kvq, f1, f2, f3, f4, f5⟩ := hp'
        have eq : ∀ r, g1 r + (if r ∈ k2.take kv2.length then g2 r else 0) = g1 r + g2 r := fun r => by
          rw [lk, List.take_length]
          by_cases m : r ∈ k2
          · rw [if_pos m]
          · rw [if_neg m, b5 r m]
        refine DictAt.imp ⟨kvq, by rw [upd_ne npd]; exact f1, f2, fun r hr => ?_, f4, f5⟩ eq
        obtain ⟨u2, c1, c2⟩ := f3 r hr
        refine ⟨u2, c1, ?_⟩
        rw [upd_ne fun z => by
          rw [z, hfz] at c2
          cases c2]
        exact c2
      refine ⟨_, rfl, p, ks', _, rfl, hpf, by omega, fun d' ks2 H2 sm2 hd' hD cl l2 sub2 => ?_⟩
      exact q d' ks2 H2 (smf.trans sm2) (smf.free hd') hD cl (by omega) fun r hr => sub r (sub2 r hr)
end
end TC
namespace TC
open PySem PySem.Spec PyProof.Rows L2 TCA
theorem DictAt.lock {H : Hp} {d p : Addr} {o : HO} {kv : List (Key × V)} {ks : List Int} {g : Int → Rat} (e : H d = some (.dK kv)) (n : p ≠ d) (h : DictAt H p ks g) : DictAt (upd H d o) p ks g := by
  obtain ⟨kvs, h1, h2, h3, h4, h5⟩ := h
  refine ⟨kvs, by rw [upd_ne n]; exact h1, h2, fun r hr => ?_, h4, h5⟩
  obtain ⟨u, u1, u2⟩ := h3 r hr
  exact ⟨u, u1, by
    rw [upd_ne fun z => by
      rw [z, e] at u2
      cases u2]
    exact u2⟩
theorem DictAt.lockF {H : Hp} {d p : Addr} {o u0 : HO} {od : Obj} {ks : List Int} {g : Int → Rat} (e : H d = some (.frz od u0)) (n : p ≠ d) (h : DictAt H p ks g) : DictAt (upd H d o) p ks g := by
  obtain ⟨kvs, h1, h2, h3, h4, h5⟩ := h
  refine ⟨kvs, by rw [upd_ne n]; exact h1, h2, fun r hr => ?_, h4, h5⟩
  obtain ⟨u, u1, u2⟩ := h3 r hr
  exact ⟨u, u1, by
    rw [upd_ne fun z => by
      rw [z, e] at u2
      cases u2]
    exact u2⟩
section
variable {P : Program} {w : World} {K : PySem.W.Frag} {mg : Str → Option Value} {base : Heap} {f : Addr} {fd : FuncData} {C fI fQ : Addr}
/-! ### _law_common -/
def spCommon : Sp := fun vs H Q _ => ∃ r s : Int, vs = [.int r, .int s] ∧ 0 ≤ r ∧ 0 ≤ s ∧ Q (.int (gR r s)) H
theorem scCommon : FnScope ["_law_one", "_law_other"] ["_law_one", "_law_other"] (defScope sCommon) := ⟨rfl, rfl, rfl, by decide +kernel, rfl, by decide +kernel, by decide +kernel⟩
theorem ok_common (F : FnP K "_law_common" sCommon f fd) : FnOk P w K mg base CX0 1 f fd ["_law_one", "_law_other"] spCommon := by
  refine F.ok scCommon (fun vs H Q E h => ?_) (fun cdv Ar outer s H vs Q E hr h => ?_)
  · obtain ⟨a, b, rfl, _⟩ := h
    rfl
  · obtain ⟨a, b, rfl, a0, b0, q⟩ := h
    refine ⟨_, PSs.nox (pss_cons (ps_while PassesOwn.never (pt_cmpR op_gt (pv 1) pe_int (nomark _))
        (pss_one (ps_par (i := 0) (j := 1) rfl scCommon.nd rfl rfl (by decide) rfl rfl (pa_cons (pv 1) (pa_cons (pe_op op_modN (pv 0) (pv 1)) pa_nil)) (by rfl))))
      (pss_one (ps_ret (pv 0)))), ?_⟩
    refine ⟨fun m σ H' => ∃ x y : Int, σ = [some (.int x), some (.int y)] ∧ H' = H ∧ 0 ≤ x ∧ 0 ≤ y ∧ Int.gcd x y = Int.gcd a b ∧ y.natAbs = m, ⟨_, a, b, rfl, rfl, a0, b0, rfl, rfl⟩, fun m σ H' hW => ?_⟩
    obtain ⟨x, y, rfl, rfl, x0, y0, eg, em⟩ := hW
    refine ⟨_, rfl, y, 0, rfl, rfl, _, rfl, ?_⟩
    by_cases hy : y > 0
    · refine iteD1 hy ?_
      refine ⟨fun σ' H'' => ∃ x' y' : Int, σ' = [some (.int x'), some (.int y')] ∧ H'' = H' ∧ 0 ≤ x' ∧ 0 ≤ y' ∧ Int.gcd x' y' = Int.gcd a b ∧ y'.natAbs < m, fun σ' H'' hN => ?_, ?_⟩
      · obtain ⟨x', y', e1, e2, e3, e4, e5, e6⟩ := hN
        exact ⟨_, e6, x', y', e1, e2, e3, e4, e5, rfl⟩
      · refine ⟨_, rfl, _, rfl, _, rfl, x, y, rfl, rfl, by show y ≠ 0; omega, _, _, rfl, y, x.fmod y, rfl, rfl, y0, Int.fmod_nonneg_of_pos x hy, ?_, ?_⟩
        · rw [TCM.gcd_fmod, eg]
        · rw [← em]
          exact TCM.fmod_lt x y (by omega)
    · refine iteD0 hy ?_
      have ey : y = 0 := by omega
      subst ey
      have ex : x = gR a b := by
        unfold gR
        rw [← eg, show Int.gcd x 0 = x.natAbs from Int.gcd_zero_right x]
        omega
      subst ex
      exact ⟨_, rfl, q⟩
/-! ### _law_product -/
theorem scProduct : FnScope ["_law_one", "_law_other", "_law_found", "_law_r", "_law_s", "_law_g", "_law_up", "_law_part"] ["_law_one", "_law_other"] (defScope sProduct) := ⟨rfl, rfl, rfl, by decide +kernel, rfl, by decide +kernel, by decide +kernel⟩
def spProduct : Sp := fun vs H Q _ => ∃ (d1 d2 : Addr) (k1 k2 : List Int) (g1 g2 : Int → Rat) (D1 D2 A1 A2 B1 B2 R : Nat), vs = [.ref d1, .ref d2] ∧ d1 ≠ d2 ∧ DictAt H d1 k1 g1 ∧ DictAt H d2 k2 g2 ∧
  (∀ r, (g1 r).den ∣ D1) ∧ (∀ r, (g2 r).den ∣ D2) ∧ 0 < D1 ∧ 0 < D2 ∧ D1 < 2 ^ B1 ∧ D2 < 2 ^ B2 ∧ (∀ r, (g1 r).num.natAbs < 2 ^ A1) ∧ (∀ r, (g2 r).num.natAbs < 2 ^ A2) ∧ 0 < A1 ∧ 0 < A2 ∧ 0 < B1 ∧ 0 < B2 ∧ 0 < R ∧
  A1 + B1 + (A2 + B2) + R ≤ 3900 ∧ (∀ r ∈ k1, 0 < r ∧ r.natAbs < 2 ^ R) ∧ (∀ r ∈ k2, 0 < r ∧ r.natAbs < 2 ^ R) ∧ k1.length * k2.length ≤ 800 ∧
  ∀ d ks H', Same H H' → H d = none → DictAt H' d ks (prodG k1 k2 g1 g2) → Clear ks (prodG k1 k2 g1 g2) → ks.length ≤ k1.length * k2.length → (∀ u ∈ ks, ∃ r ∈ k1, ∃ s ∈ k2, u = mulR r s) → Q (.ref d) H'
set_option maxHeartbeats 0 in
theorem ok_product {fG fL fS : Addr} {fdG fdL fdS : FuncData} (F : FnP K "_law_product" sProduct f fd) (GG : FnOk P w K mg base CX0 1 fG fdG ["_law_one", "_law_other"] spCommon) (bG : L2.Binds K fdG ["_law_one", "_law_other"] []) (kG : PySem.W.keepIn K (.ref fG) = true) (gG : mg "_law_common" = some (.ref fG))
    (GL : FnOk P w K mg base CX0 1 fL fdL ["_law_up", "_law_under"] spLowL) (bL : L2.Binds K fdL ["_law_up", "_law_under"] []) (kL : PySem.W.keepIn K (.ref fL) = true) (gL : mg "_law_low" = some (.ref fL))
    (GS : FnOk P w K mg base CX0 2 fS fdS ["_law_one", "_law_other"] spSum) (bS : L2.Binds K fdS ["_law_one", "_law_other"] []) (kS : PySem.W.keepIn K (.ref fS) = true) (gS : mg "_law_sum" = some (.ref fS)) :
    FnOk P w K mg base CX0 3 f fd ["_law_one", "_law_other"] spProduct := by
  refine F.ok scProduct (fun vs H Q E h => ?_) (fun cdv Ar outer s H vs Q E hr h => ?_)
  · obtain ⟨d1, d2, k1, k2, g1, g2, D1, D2, A1, A2, B1, B2, R, rfl, _⟩ := h
    rfl
  · obtain ⟨d1, d2, k1, k2, g1, g2, D1, D2, A1, A2, B1, B2, R, rfl, ndd, h1, h2, e1, e2, D10, D20, z1, z2, n1, n2, A10, A20, B10, B20, R0, AB, r1, r2, len, q⟩ := h
    have hr1 := hr.mono (j := 1) (by decide)
    have hu := hu_of hr
    refine ⟨_, PSs.nox (pss_cons (ps_set (i := 2) scProduct.nd rfl (.inl rfl) pe_dnewK)
      (pss_cons (ps_lock (ps_for PassesOwn.never rfl (pi_keys (pv 0)) (pg_name (i := 3) scProduct.nd rfl (.inl rfl))
        (pss_one (ps_lock (ps_for PassesOwn.never rfl (pi_keys (pv 1)) (pg_name (i := 4) scProduct.nd rfl (.inl rfl))
          (pss_cons (ps_set (i := 5) scProduct.nd rfl (.inl rfl) (pe_call GG hr1 (by rfl) gG kG bG .nil pass0 (pa_cons (pv 3) (pa_cons (pv 4) pa_nil))))
          (pss_cons (ps_set (i := 6) scProduct.nd rfl (.inl rfl) (pe_op op_mulW (pe_op op_mulW (pe_ix ix_tup (pe_dget hu (pv 0) (pv 3) (fun _ _ => rfl)) pe_int (fun _ _ => rfl)) (pe_ix ix_tup (pe_dget hu (pv 1) (pv 4) (fun _ _ => rfl)) pe_int (fun _ _ => rfl))) (pv 5)))
          (pss_cons (ps_set (i := 7) scProduct.nd rfl (.inl rfl) (pe_call GL hr1 (by rfl) gL kL bL .nil pass0 (pa_cons (pv 6) (pa_cons (pe_op op_mulW (pe_ix ix_tup (pe_dget hu (pv 0) (pv 3) (fun _ _ => rfl)) pe_int (fun _ _ => rfl)) (pe_ix ix_tup (pe_dget hu (pv 1) (pv 4) (fun _ _ => rfl)) pe_int (fun _ _ => rfl))) pa_nil))))
          (pss_one (ps_set (i := 2) scProduct.nd rfl (.inl rfl) (pe_call GS hr (by rfl) gS kS bS .nil pass0 (pa_cons (pv 2) (pa_cons
            (pe_disp (pps_cons (pe_op op_mulW (pe_op op_fdivNW (pv 3) (pv 5)) (pe_op op_fdivNW (pv 4) (pv 5))) (pv 7) pps_nil) rfl rfl (by intro z; cases z) (by decide)) pa_nil)))))))))))))
      (pss_one (ps_ret (pv 2))))), ?_⟩
    obtain ⟨kv1, a1, a2, a3, a4, a5⟩ := id h1
    obtain ⟨kv2, b1, b2, b3, b4, b5⟩ := id h2
    have lk1 := len_keys a2
    have lk2 := len_keys b2
    have c0 : (D1 : Int) * (D2 : Int) ≠ 0 := Int.mul_ne_zero (by omega) (by omega)
    have tl1 : ∀ r, (topsG g1 D1 r).natAbs < 2 ^ (A1 + B1) := fun r => wide_lt (n1 r) (by rw [Int.natAbs_natCast]; exact Nat.lt_of_le_of_lt (Nat.div_le_self ..) z1)
    have tl2 : ∀ r, (topsG g2 D2 r).natAbs < 2 ^ (A2 + B2) := fun r => wide_lt (n2 r) (by rw [Int.natAbs_natCast]; exact Nat.lt_of_le_of_lt (Nat.div_le_self ..) z2)
    have gB : ∀ {r s : Int}, r ∈ k1 → (gR r s).natAbs < 2 ^ R := fun {r s} hr => by
      unfold gR
      rw [Int.natAbs_natCast]
      obtain ⟨r0, rR⟩ := r1 r hr
      exact Nat.lt_of_le_of_lt (Nat.le_of_dvd (by omega) (Int.gcd_dvd_natAbs_left r s)) rR
    have bt : ∀ r ∈ k1, ∀ s ∈ k2, (topsG g1 D1 r * topsG g2 D2 s * gR r s).natAbs ≤ 2 ^ (A1 + B1 + (A2 + B2) + R) := fun r hr s hs => Nat.le_of_lt (wide_lt (wide_lt (tl1 r) (tl2 s)) (gB hr))
    have DDB : D1 * D2 < 2 ^ (B1 + B2) := by
      have z := wide_lt (i := (D1 : Int)) (j := (D2 : Int)) (by rw [Int.natAbs_natCast]; exact z1) (by rw [Int.natAbs_natCast]; exact z2)
      rwa [← Int.natCast_mul, Int.natAbs_natCast] at z
    have szp : ∀ t : Int, t.natAbs ≤ 800 * 2 ^ (A1 + B1 + (A2 + B2) + R) → TCR.Sz (A1 + B1 + (A2 + B2) + R + 10) (Rat.divInt t ((D1 : Int) * (D2 : Int))) := fun t ht => by
      refine TCR.Sz.divInt c0 (Nat.lt_of_le_of_lt ht ?_) ?_
      · rw [Nat.pow_add 2 _ 10, Nat.mul_comm]
        exact Nat.mul_lt_mul_of_pos_left (by decide) (Nat.pow_pos (by decide))
      · rw [← Int.natCast_mul, Int.natAbs_natCast]
        exact Nat.lt_of_lt_of_le DDB (Nat.pow_le_pow_right (by decide) (by omega))
    intro p0 hp0
    have smp := same_upd (o := .dK []) hp0
    have np1 : p0 ≠ d1 := (ne_of_none a1 hp0).symm
    refine ⟨d1, .dK kv1, smp _ _ a1, trivial, fun o1 => ?_⟩
    refine ⟨_, rfl, d1, o1, rfl, .inl ⟨kv1, upd_same, ?_⟩⟩
    refine for_it (walk_keys (d := d1) (o := o1) (kvs := kv1)) (fun i σ H' => ∃ (v3 v4 v5 v6 v7 : Option V) (p : Addr) (ks : List Int), σ = [some (.ref d1), some (.ref d2), some (.ref p), v3, v4, v5, v6, v7] ∧ H' d1 = some (.frz o1 (.dK kv1)) ∧ (∀ b o, H b = some o → b ≠ d1 → H' b = some o) ∧ H p = none ∧
        DictAt H' p ks (fun u => Rat.divInt (prodI (k1.take i) k2 (topsG g1 D1) (topsG g2 D2) u) ((D1 : Int) * (D2 : Int))) ∧ Clear ks (fun u => Rat.divInt (prodI (k1.take i) k2 (topsG g1 D1) (topsG g2 D2) u) ((D1 : Int) * (D2 : Int))) ∧ ks.length ≤ i * k2.length ∧ (∀ u ∈ ks, ∃ r ∈ k1, ∃ s ∈ k2, u = mulR r s))
      ⟨none, none, none, none, none, p0, [], rfl, upd_same, fun b o e hb => by rw [upd_ne hb]; exact smp _ _ e, hp0, ⟨[], by rw [upd_ne np1, upd_same], rfl, (fun r hr => by cases hr), List.nodup_nil, fun r _ => Rat.zero_divInt _⟩, (fun r hr => by cases hr), Nat.zero_le _, (fun u hu => by cases hu)⟩ (fun i σ H' _ hP => ?_) (fun i x σ H' H2 hi hP hy => ?_) (fun σ H' hP => ?_)
    · obtain ⟨_, _, _, _, _, _, _, _, z, _⟩ := hP
      exact z
    · obtain ⟨rfl, k, v, hkv, rfl⟩ := hy
      obtain ⟨v3, v4, v5, v6, v7, p, ks, rfl, hf1, keep, hpn, hI, cl, lks, sub⟩ := hP
      obtain ⟨r, hr', rfl⟩ := key_at a2 hkv
      have rk : r ∈ k1 := List.mem_of_getElem? hr'
      have il1 : i < k1.length := (List.getElem?_eq_some_iff.mp hr').1
      obtain ⟨u1, ua1, ub1⟩ := a3 r rk
      obtain ⟨r0, rR⟩ := r1 r rk
      have hd2 := keep _ _ b1 ndd.symm
      have np2 : p ≠ d2 := (ne_of_none b1 hpn).symm
      refine ⟨d2, .dK kv2, hd2, trivial, fun o2 => ?_⟩
      refine ⟨_, rfl, d2, o2, rfl, .inl ⟨kv2, upd_same, ?_⟩⟩
      refine for_it (walk_keys (d := d2) (o := o2) (kvs := kv2)) (fun j σ H3 => ∃ (v4 v5 v6 v7 : Option V) (p : Addr) (ks : List Int), σ = [some (.ref d1), some (.ref d2), some (.ref p), some (.int r), v4, v5, v6, v7] ∧ H3 d1 = some (.frz o1 (.dK kv1)) ∧ H3 d2 = some (.frz o2 (.dK kv2)) ∧ (∀ b o, H b = some o → b ≠ d1 → b ≠ d2 → H3 b = some o) ∧ H p = none ∧
          DictAt H3 p ks (fun u => Rat.divInt (prodI (k1.take i) k2 (topsG g1 D1) (topsG g2 D2) u + rowI r (topsG g1 D1 r) (k2.take j) (topsG g2 D2) u) ((D1 : Int) * (D2 : Int))) ∧ Clear ks (fun u => Rat.divInt (prodI (k1.take i) k2 (topsG g1 D1) (topsG g2 D2) u + rowI r (topsG g1 D1 r) (k2.take j) (topsG g2 D2) u) ((D1 : Int) * (D2 : Int))) ∧
          ks.length ≤ i * k2.length + j ∧ (∀ u ∈ ks, ∃ r ∈ k1, ∃ s ∈ k2, u = mulR r s))
        ⟨v4, v5, v6, v7, p, ks, rfl, by rw [upd_ne ndd]; exact hf1, upd_same, fun b o e hb hb2 => by rw [upd_ne hb2]; exact keep _ _ e hb, hpn, (hI.lock hd2 np2).imp fun u => by rw [show rowI r (topsG g1 D1 r) (k2.take 0) (topsG g2 D2) u = 0 from rfl, Int.add_zero], (fun u hu' => by
          show Rat.divInt (_ + rowI r (topsG g1 D1 r) (k2.take 0) (topsG g2 D2) u) _ ≠ 0
          rw [show rowI r (topsG g1 D1 r) (k2.take 0) (topsG g2 D2) u = 0 from rfl, Int.add_zero]
          exact cl u hu'), by omega, sub⟩ (fun j σ H3 _ hP => ?_) (fun j x σ H3 H4 hj hP hy => ?_) (fun σ H3 hP => ?_)
      · obtain ⟨_, _, _, _, _, _, _, _, z, _⟩ := hP
        exact z
      · obtain ⟨rfl, k, v, hkv2, rfl⟩ := hy
        clear hI cl lks sub v3 v4 v5 v6 v7 hpn np2 p ks
        obtain ⟨v4, v5, v6, v7, p, ks, rfl, hf1', hf2', keep', hpn, hI', cl', lks', sub'⟩ := hP
        obtain ⟨s, hs', rfl⟩ := key_at b2 hkv2
        have sk : s ∈ k2 := List.mem_of_getElem? hs'
        have jl : j < k2.length := (List.getElem?_eq_some_iff.mp hs').1
        obtain ⟨u2, ua2, ub2⟩ := b3 s sk
        obtain ⟨s0, sR⟩ := r2 s sk
        have nf : ∀ {u d : Addr} {q : Rat} {kv : List (Key × V)}, H d = some (.dK kv) → H u = some (fraV q) → u ≠ d := fun {u d q kv} hd hu z => by
          rw [z, hd] at hu
          cases hu
        have bu1 := keep' _ _ ub1 (nf a1 ub1) (nf b1 ub1)
        have bu2 := keep' _ _ ub2 (nf a1 ub2) (nf b1 ub2)
        have gp : 0 < Int.gcd r s := Int.gcd_pos_iff.mpr (.inl (by omega))
        have gRB := gB (s := s) rk
        have gN : Int.gcd r s < 2 ^ R := by
          unfold gR at gRB
          rwa [Int.natAbs_natCast] at gRB
        have cdv' : ∀ z, CDivNW z (gR r s) := fun z => cdivn gp gN R0 (by omega)
        have fB : ∀ z : Int, 0 < z → z.natAbs < 2 ^ R → (z.fdiv (gR r s)).natAbs < 2 ^ R := fun z hz hzR => by
          have e : z = ((z.natAbs : Nat) : Int) := by omega
          rw [e]
          unfold gR
          rw [fdiv_nat, Int.natAbs_natCast]
          exact Nat.lt_of_le_of_lt (Nat.div_le_self ..) hzR
        have dn1 : ((g1 r).den : Int).natAbs < 2 ^ B1 := by rw [Int.natAbs_natCast]; exact Nat.lt_of_le_of_lt (Nat.le_of_dvd D10 (e1 r)) z1
        have dn2 : ((g2 s).den : Int).natAbs < 2 ^ B2 := by rw [Int.natAbs_natCast]; exact Nat.lt_of_le_of_lt (Nat.le_of_dvd D20 (e2 s)) z2
        have bne : ((g1 r).den : Int) * ((g2 s).den : Int) ≠ 0 := by
          have x1 := (g1 r).den_pos
          have x2 := (g2 s).den_pos
          exact Int.mul_ne_zero (by omega) (by omega)
        refine ⟨_, rfl, _, rfl, r, s, rfl, by omega, by omega, ?_⟩
        refine ⟨_, rfl, _, rfl, d1, _, rfl, dget_rd (.inr ⟨o1, hf1'⟩) ua1, u1, _, 0, _, rfl, rfl, SqT.of bu1, atI_nat (j := 0) rfl, _, rfl, _, rfl, d2, _, rfl, dget_rd (.inr ⟨o2, hf2'⟩) ua2, u2, _, 0, _, rfl, rfl, SqT.of bu2, atI_nat (j := 0) rfl, (g1 r).num, (g2 s).num, rfl, rfl, cmulw (n1 r) (n2 s) A10 A20 (by omega), _, rfl, _, gR r s, rfl, rfl, cmulw (wide_lt (n1 r) (n2 s)) gRB (by omega) R0 (by omega), ?_⟩
        refine ⟨_, rfl, _, rfl, _, rfl, d1, _, rfl, dget_rd (.inr ⟨o1, hf1'⟩) ua1, u1, _, 1, _, rfl, rfl, SqT.of bu1, atI_nat (j := 1) rfl, _, rfl, _, rfl, d2, _, rfl, dget_rd (.inr ⟨o2, hf2'⟩) ua2, u2, _, 1, _, rfl, rfl, SqT.of bu2, atI_nat (j := 1) rfl, ((g1 r).den : Int), ((g2 s).den : Int), rfl, rfl, cmulw dn1 dn2 B10 B20 (by omega), ?_⟩
        refine ⟨_, _, B1 + B2, rfl, bne, wide_lt dn1 dn2, by omega, by omega, fun c hc => ?_⟩
        rw [lowL_fra bne rfl]
        generalize hq : Rat.divInt ((g1 r).num * (g2 s).num * gR r s) (((g1 r).den : Int) * ((g2 s).den : Int)) = part
        have epart : part = Rat.divInt (topsG g1 D1 r * topsG g2 D2 s * gR r s) ((D1 : Int) * (D2 : Int)) := by
          rw [← hq, term_div, term_div, Rat.num_divInt_den, Rat.num_divInt_den, topsG_div D10 r (e1 r), topsG_div D20 s (e2 s)]
        have szq : TCR.Sz (A1 + B1 + (A2 + B2) + R + 10) part := by
          rw [epart]
          exact szp _ (Nat.le_trans (bt r rk s sk) (Nat.le_mul_of_pos_left _ (by decide)))
        have smc := same_upd (o := fraV part) hc
        refine ⟨_, rfl, ?_⟩
        intro dp hdp
        have smd := same_upd (o := .dK []) hdp
        refine ⟨_, rfl, _, rfl, r, gR r s, rfl, rfl, cdv' _, _, rfl, _, rfl, s, gR r s, rfl, rfl, cdv' _, _, _, rfl, rfl, cmulw (fB r r0 rR) (fB s s0 sR) R0 R0 (by omega), _, rfl, upd_same, [(Sum.inl (mulR r s), .ref c)], rfl, by show 1 ≤ 15; decide, ?_⟩
        rw [upd_upd]
        have smd2 := same_upd (o := .dK (mergeK [] [((Sum.inl (mulR r s) : Key), V.ref c)])) hdp
        have ncd : c ≠ dp := ne_of_none (upd_same (H := H4) (a := c) (o := fraV part)) hdp
        have hDp : DictAt (upd (upd H4 c (fraV part)) dp (.dK (mergeK [] [((Sum.inl (mulR r s) : Key), V.ref c)]))) dp [mulR r s] (fun u => if u = mulR r s then part else 0) := by
          refine ⟨_, upd_same, rfl, fun u hu' => ?_, by simp, fun u hu' => if_neg fun z => hu' (List.mem_singleton.mpr z)⟩
          rw [List.mem_singleton.mp hu']
          refine ⟨c, valV_pos rfl, ?_⟩
          rw [upd_ne ncd, upd_same]
          show some (fraV part) = some (fraV (if mulR r s = mulR r s then part else 0))
          rw [if_pos rfl]
        have smA := smc.trans smd2
        have szI : ∀ u, TCR.Sz (A1 + B1 + (A2 + B2) + R + 10) (Rat.divInt (prodI (k1.take i) k2 (topsG g1 D1) (topsG g2 D2) u + rowI r (topsG g1 D1 r) (k2.take j) (topsG g2 D2) u) ((D1 : Int) * (D2 : Int))) := fun u => by
          refine szp _ ?_
          have x1 := prodI_le (k1 := k1.take i) (k2 := k2) (t1 := topsG g1 D1) (t2 := topsG g2 D2) (fun r hr s hs => bt r (List.mem_of_mem_take hr) s hs) u
          have x2 : (rowI r (topsG g1 D1 r) (k2.take j) (topsG g2 D2) u).natAbs ≤ (k2.take j).length * 2 ^ (A1 + B1 + (A2 + B2) + R) := by
            refine sumI_le fun s hs => ?_
            split
            · exact bt r rk s (List.mem_of_mem_take hs)
            · exact Nat.zero_le _
          rw [List.length_take, Nat.min_eq_left (Nat.le_of_lt il1)] at x1
          rw [List.length_take, Nat.min_eq_left (Nat.le_of_lt jl)] at x2
          have x3 : (i * k2.length + j) * 2 ^ (A1 + B1 + (A2 + B2) + R) ≤ 800 * 2 ^ (A1 + B1 + (A2 + B2) + R) := by
            refine Nat.mul_le_mul_right _ ?_
            have : (i + 1) * k2.length ≤ k1.length * k2.length := Nat.mul_le_mul_right _ il1
            rw [Nat.succ_mul] at this
            omega
          rw [Nat.add_mul] at x3
          omega
        have len9 : ks.length + 1 ≤ 900 := by
          have : (i + 1) * k2.length ≤ k1.length * k2.length := Nat.mul_le_mul_right _ il1
          rw [Nat.succ_mul] at this
          omega
        refine ⟨p, dp, ks, [mulR r s], _, _, A1 + B1 + (A2 + B2) + R + 10, A1 + B1 + (A2 + B2) + R + 10, rfl, hI'.same smA, hDp, szI, (fun u => by
          show TCR.Sz _ (if u = mulR r s then part else 0)
          split
          · exact szq
          · exact TCR.Sz.zero (by omega)), by omega, by omega, by omega, len9, fun d' ks' H5 sm5 hd' hD5 cl5 l5 sub5 => ?_⟩
        have efun : ∀ u, Rat.divInt (prodI (k1.take i) k2 (topsG g1 D1) (topsG g2 D2) u + rowI r (topsG g1 D1 r) (k2.take j) (topsG g2 D2) u) ((D1 : Int) * (D2 : Int)) + (if u = mulR r s then part else 0) = Rat.divInt (prodI (k1.take i) k2 (topsG g1 D1) (topsG g2 D2) u + rowI r (topsG g1 D1 r) (k2.take (j + 1)) (topsG g2 D2) u) ((D1 : Int) * (D2 : Int)) := fun u => by
          rw [rowI_succ hs' u, ← Int.add_assoc, divInt_add c0 (prodI (k1.take i) k2 (topsG g1 D1) (topsG g2 D2) u + rowI r (topsG g1 D1 r) (k2.take j) (topsG g2 D2) u)]
          congr 1
          by_cases es : u = mulR r s
          · rw [if_pos es, if_pos es.symm, epart]
          · rw [if_neg es, if_neg fun z => es z.symm, Rat.zero_divInt]
        have smB := smA.trans sm5
        have hpd' : H d' = none := by
          cases e : H d' with
          | none => rfl
          | some o =>
            exfalso
            have zz : ∃ o', H4 d' = some o' := by
              by_cases x1 : d' = d1
              · exact ⟨_, by rw [x1]; exact hf1'⟩
              · by_cases x2 : d' = d2
                · exact ⟨_, by rw [x2]; exact hf2'⟩
                · exact ⟨_, keep' _ _ e x1 x2⟩
            obtain ⟨o', ho'⟩ := zz
            have := smA _ _ ho'
            rw [hd'] at this
            cases this
        refine ⟨_, _, _, _, d', ks', rfl, smB _ _ hf1', smB _ _ hf2', fun b o e hb hb2 => smB _ _ (keep' _ _ e hb hb2), hpd', hD5.imp efun, (fun u hu' z => cl5 u hu' ((efun u).trans z)), by
          have : ks'.length ≤ ks.length + 1 := l5
          omega, fun u hu' => ?_⟩
        rcases sub5 u hu' with m | m
        · exact sub' u m
        · exact ⟨r, rk, s, sk, List.mem_singleton.mp m⟩
      · obtain ⟨v4, v5, v6, v7, p, ks, rfl, hf1', hf2', keep', hpn, hI', cl', lks', sub'⟩ := hP
        have np2 : p ≠ d2 := (ne_of_none b1 hpn).symm
        have efun : ∀ u, Rat.divInt (prodI (k1.take i) k2 (topsG g1 D1) (topsG g2 D2) u + rowI r (topsG g1 D1 r) (k2.take kv2.length) (topsG g2 D2) u) ((D1 : Int) * (D2 : Int)) = Rat.divInt (prodI (k1.take (i + 1)) k2 (topsG g1 D1) (topsG g2 D2) u) ((D1 : Int) * (D2 : Int)) := fun u => by
          rw [lk2, List.take_length, prodI_succ hr' u]
        refine ⟨hf2', _, _, _, _, _, p, ks, rfl, by rw [upd_ne ndd]; exact hf1', fun b o e hb => ?_, hpn, (hI'.lockF hf2' np2).imp efun, (fun u hu' z => cl' u hu' ((efun u).trans z)), ?_, sub'⟩
        · by_cases hb2 : b = d2
          · rw [hb2, upd_same]
            rw [hb2, b1] at e
            exact e
          · rw [upd_ne hb2]
            exact keep' _ _ e hb hb2
        · rw [Nat.succ_mul]
          omega
    · obtain ⟨v3, v4, v5, v6, v7, p, ks, rfl, hf1, keep, hpn, hI, cl, lks, sub⟩ := hP
      have np1' : p ≠ d1 := (ne_of_none a1 hpn).symm
      have efun : ∀ u, Rat.divInt (prodI (k1.take kv1.length) k2 (topsG g1 D1) (topsG g2 D2) u) ((D1 : Int) * (D2 : Int)) = prodG k1 k2 g1 g2 u := fun u => by
        rw [lk1, List.take_length, prod_divG D10 D20 e1 e2]
      refine ⟨hf1, _, rfl, q p ks _ (fun b o e => ?_) hpn ((hI.lockF hf1 np1').imp efun) (fun u hu' z => cl u hu' ((efun u).trans z)) (by rw [lk1] at lks; exact lks) sub⟩
      by_cases hb : b = d1
      · rw [hb, upd_same]
        rw [hb, a1] at e
        exact e
      · rw [upd_ne hb]
        exact keep _ _ e hb
end
end TC
namespace TCX
theorem nat_rat (n : Nat) : (((n : Nat) : Int) : Rat) = (n : Rat) := rfl
theorem divInt_nat (a b : Nat) : Rat.divInt (a : Int) (b : Int) = (a : Rat) / (b : Rat) := by
  rw [Rat.div_def, ← nat_rat a, ← nat_rat b]
  rw [Rat.divInt_eq_div, Rat.div_def]
theorem frac_pos {a b : Nat} (ha : 0 < a) (hb : 0 < b) : 0 < Rat.divInt (a : Int) (b : Int) := by
  rw [divInt_nat, Rat.div_def]
  exact Rat.mul_pos (pos_nat ha) (Rat.inv_pos.mpr (pos_nat hb))
/-- the fraction and the root that root_of_factorials tells -/
theorem rootE_rt {ab be : List Nat} (h1 : ∀ n ∈ ab, n < 123) (h2 : ∀ n ∈ be, n < 123) : IsRt (rootE ab be) (Rat.divInt ((topE ab be : Nat) : Int) ((botE ab be : Nat) : Int)) ((prodF ab : Rat) / (prodF be : Rat)) := by
  have e := rootE_ok h1 h2
  have t0 := topE_pos ab be
  have b0 := botE_pos ab be
  have p0 : 0 < prodF be := by
    rw [prodF_leg h2]
    exact powP_pos pr30_p
  refine ⟨rootE_sqF ab be, frac_pos t0 b0, ?_⟩
  rw [divInt_nat]
  have n1 := ne_of_pos (pos_nat b0)
  have n2 := ne_of_pos (pos_nat p0)
  have e' : ((botE ab be * botE ab be * prodF ab : Nat) : Rat) = ((topE ab be * topE ab be * rootE ab be * prodF be : Nat) : Rat) := by rw [e]
  simp only [Rat.natCast_mul] at e'
  generalize (botE ab be : Rat) = x at *
  generalize (topE ab be : Rat) = y at *
  generalize (rootE ab be : Rat) = z at *
  generalize (prodF ab : Rat) = u at *
  generalize (prodF be : Rat) = v at *
  grind
/-- .. and that the trial by squares tells -/
theorem sq_rt {up un sq fr : Nat} (e : up * un = sq * sq * fr) (hf : SqF fr) (hs : 0 < sq) (hu : 0 < un) : IsRt fr (Rat.divInt (sq : Int) (un : Int)) ((up : Rat) / (un : Rat)) := by
  refine ⟨hf, frac_pos hs hu, ?_⟩
  rw [divInt_nat]
  have n1 := ne_of_pos (pos_nat hu)
  have e' : ((up * un : Nat) : Rat) = ((sq * sq * fr : Nat) : Rat) := by rw [e]
  simp only [Rat.natCast_mul] at e'
  generalize (sq : Rat) = x at *
  generalize (un : Rat) = y at *
  generalize (up : Rat) = z at *
  generalize (fr : Rat) = u at *
  grind
end TCX
namespace TC
set_option exponentiation.threshold 20000
open PySem PySem.Spec PyProof.Rows L2 TCA TCX
def LLi (ts os : List Int) (k : Int) : List Int := (ts.map fun t => k - t) ++ os.map fun o => o - k
section
variable {P : Program} {w : World} {K : PySem.W.Frag} {mg : Str → Option Value} {base : Heap} {f : Addr} {fd : FuncData} {C fI fQ : Addr}
/-! ### _law_six_terms -/
def spSixTermsL : Sp := fun vs H Q _ => ∃ (t : Addr) (a b c d e g : Int), vs = [.ref t] ∧ H t = some (iv [a, b, c, d, e, g]) ∧ SixP a b c d e g ∧
  ∀ (D : Addr) (us : List Addr) H', Same H H' → H D = none → H' D = some (.lst (us.map V.ref)) → PrsAt H' us (pairsL (sixTL (sixTs a b c d e g) (sixOs a b c d e g))) → Q (.ref D) H'
abbrev nSixTermsL : List Str := ["_law_sizes_here", "_law_lows", "_law_highs", "_law_found", "_law_k", "_law_under", "_law_n", "_law_low_here", "_law_high"]
end
end TC
namespace TC
set_option exponentiation.threshold 20000
open PySem PySem.Spec PyProof.Rows L2 TCA TCX
theorem mulR_nat (x y : Nat) : mulR (x : Int) (y : Int) = ((x / Nat.gcd x y * (y / Nat.gcd x y) : Nat) : Int) := by
  unfold mulR gR
  rw [Int.gcd_natCast_natCast, Int.fdiv_eq_ediv_of_nonneg _ (by omega), Int.fdiv_eq_ediv_of_nonneg _ (by omega), Int.natCast_mul, Int.natCast_ediv, Int.natCast_ediv]
theorem gR_nat (x y : Nat) : gR (x : Int) (y : Int) = ((Nat.gcd x y : Nat) : Int) := by
  unfold gR
  rw [Int.gcd_natCast_natCast]
/-- a fraction times one root, as a function of roots -/
def rtF (F : Nat) (Q : Rat) (r : Int) : Rat := if r = (F : Int) then Q else 0
theorem prod_rt {F F' : Nat} {Q Q' N N' : Rat} (h : IsRt F Q N) (h' : IsRt F' Q' N') {G : Nat} {R : Rat} (hG : IsRt G R (N * N')) : prodG [(F : Int)] [(F' : Int)] (rtF F Q) (rtF F' Q') = rtF G R := by
  funext u
  obtain ⟨e1, e2⟩ := (h.mul h').uniq hG
  show (((if mulR (F : Int) (F' : Int) = u then rtF F Q F * rtF F' Q' F' * ((gR (F : Int) (F' : Int) : Int) : Rat) else 0) + 0) + 0) = rtF G R u
  rw [Rat.add_zero, Rat.add_zero, mulR_nat, gR_nat, e1]
  unfold rtF
  rw [if_pos rfl, if_pos rfl]
  by_cases z : u = (G : Int)
  · rw [if_pos z.symm, if_pos z, ← e2]
    rfl
  · rw [if_neg fun y => z y.symm, if_neg z]
theorem keys_one {H : Hp} {d : Addr} {ks : List Int} {F : Nat} {Q : Rat} (h : DictAt H d ks (rtF F Q)) (hq : Q ≠ 0) (hl : ks.length ≤ 1) : ks = [(F : Int)] := by
  obtain ⟨kvs, h1, h2, h3, h4, h5⟩ := h
  have m : (F : Int) ∈ ks := Classical.byContradiction fun z => hq (by
    have := h5 _ z
    unfold rtF at this
    rw [if_pos rfl] at this
    exact this)
  match ks, m, hl with
  | [x], m, _ => rw [List.mem_singleton.mp m]
theorem rt_num {ab be : List Nat} (h1 : ∀ n ∈ ab, n < 123) (h2 : ∀ n ∈ be, n < 123) : (Rat.divInt ((topE ab be : Nat) : Int) ((botE ab be : Nat) : Int)).num = (topE ab be : Int) ∧ (Rat.divInt ((topE ab be : Nat) : Int) ((botE ab be : Nat) : Int)).den = botE ab be := rat_cop (botE_pos _ _) (topE_cop _ _)
theorem flat3_lt {a b c d e f : Int} (h : SixF a b c d e f) (i : Nat) : ∀ n ∈ ((quad a b c d e f).take i).flatMap ab3, n < 42 := fun n hn => by
  obtain ⟨l, hl, hn⟩ := List.mem_flatMap.mp hn
  exact sAb_lt h n (List.mem_flatMap.mpr ⟨l, List.mem_of_mem_take hl, hn⟩)
theorem map1_lt {a b c d e f : Int} (h : SixF a b c d e f) (i : Nat) : ∀ n ∈ ((quad a b c d e f).take i).map be1, n < 62 := fun n hn => by
  obtain ⟨l, hl, rfl⟩ := List.mem_map.mp hn
  exact sBe_lt h _ (List.mem_map.mpr ⟨l, List.mem_of_mem_take hl, rfl⟩)
theorem flat3_len {l : List (List Int)} : (l.flatMap ab3).length = 3 * l.length := by
  induction l with
  | nil => rfl
  | cons x l ih =>
    rw [List.flatMap_cons, List.length_append, ih]
    show 3 + _ = 3 * (l.length + 1)
    omega
section
variable {P : Program} {w : World} {K : PySem.W.Frag} {mg : Str → Option Value} {base : Heap} {f : Addr} {fd : FuncData} {C fI fQ : Addr}
/-! ### _law_six -/
def spSixL : Sp := fun vs H Q _ => ∃ (t : Addr) (a b c d e g : Int), vs = [.ref t] ∧ H t = some (iv [a, b, c, d, e, g]) ∧ (∀ x ∈ [a, b, c, d, e, g], 0 ≤ x ∧ x ≤ 40) ∧
  ∀ (d' : Addr) (ks : List Int) H', Same H H' → H d' = none → DictAt H' d' ks (TCR.val (sixL a b c d e g)) → Clear ks (TCR.val (sixL a b c d e g)) → ks.length ≤ 1 → Q (.ref d') H'
abbrev nSixL : List Str := ["_law_sizes_here", "_law_total", "_law_found", "_law_p", "_law_q", "_law_a", "_law_b", "_law_c", "_law_up", "_law_under", "_law_n"]
end
end TC
namespace TC
set_option exponentiation.threshold 20000
open PySem PySem.Spec PyProof.Rows L2 TCA TCX
/-! ### numbers that are a fraction times one root -/
/-- the parts of s times the root of N -/
structure Su (L : List Part) (s N : Rat) : Prop where
  can : TCR.Canon L
  v : ∀ r, TCR.val L r = sv s N r
theorem Su.uniq {L M : List Part} {s N : Rat} (h : Su L s N) (h' : Su M s N) : L = M := TCR.canon_eq h.can h'.can fun r => (h.v r).trans (h'.v r).symm
theorem Su.nil (N : Rat) : Su [] 0 N := ⟨TCR.canon_nil, fun r => (sv_zero N r).symm⟩
theorem Su.zero {L : List Part} {N : Rat} (h : Su L 0 N) : L = [] := h.uniq (Su.nil N)
theorem Su.scale {L : List Part} {s N t : Rat} (hN : 0 < N) (ht : 0 < t) (h : Su L s (N * (t * t))) : Su L (s * t) N := ⟨h.can, fun r => (h.v r).trans (sv_sq s hN ht r)⟩
theorem Su.of {L : List Part} {s N s' N' : Rat} (h : Su L s N) (e : s = s') (e' : N = N') : Su L s' N' := by rw [← e, ← e']; exact h
theorem Su.shape {L : List Part} {s N : Rat} (h : Su L s N) : (L = [] ∧ ∀ F Q, IsRt F Q N → s * Q = 0) ∨ ∀ F Q, IsRt F Q N → L = [((F : Int), s * Q)] ∧ s * Q ≠ 0 := by
  match L, h with
  | [], h =>
    refine .inl ⟨rfl, fun F Q hR => ?_⟩
    have := h.v (F : Int)
    rw [hR.sv, if_pos rfl] at this
    exact this.symm
  | x :: M, h =>
    refine .inr fun F Q hR => ?_
    have hx := h.can.mem (x := x) (by simp)
    have nz := h.can.nz x (by simp)
    have e1 := h.v x.1
    rw [hx, hR.sv] at e1
    have ex : x.1 = (F : Int) := Classical.byContradiction fun z => nz (by rw [e1, if_neg z])
    rw [if_pos ex] at e1
    have em : M = [] := by
      cases M with
      | nil => rfl
      | cons y M =>
        exfalso
        have hy := h.can.mem (x := y) (by simp)
        have nzy := h.can.nz y (by simp)
        have e2 := h.v y.1
        rw [hy, hR.sv] at e2
        have ey : y.1 = (F : Int) := Classical.byContradiction fun z => nzy (by rw [e2, if_neg z])
        have lt := (List.pairwise_cons.mp h.can.srt).1 y (by simp)
        omega
    subst em
    obtain ⟨x1, x2⟩ := x
    dsimp only at ex e1 nz
    subst ex e1
    exact ⟨rfl, nz⟩
theorem Su.len {L : List Part} {s N : Rat} (h : Su L s N) (hN : 0 < N) : L.length ≤ 1 := by
  rcases h.shape with ⟨rfl, _⟩ | h
  · decide
  · rw [(h _ _ (rt_ok hN)).1]
    exact Nat.le_refl 1
/-- .. with bounds: s is a / b, N is p / q -/
def SuB (L : List Part) (s N : Rat) (A B : Nat) : Prop := Su L s N ∧ ∃ (a : Int) (b p q : Nat), s = Rat.divInt a (b : Int) ∧ N = (p : Rat) / (q : Rat) ∧ 0 < b ∧ 0 < p ∧ 0 < q ∧ a.natAbs < 2 ^ A ∧ b < 2 ^ A ∧ p < 2 ^ B ∧ q < 2 ^ B
theorem quot_pos {p q : Nat} (hp : 0 < p) (hq : 0 < q) : 0 < (p : Rat) / (q : Rat) := by
  rw [Rat.div_def]
  exact Rat.mul_pos (pos_nat hp) (Rat.inv_pos.mpr (pos_nat hq))
theorem SuB.pos {L : List Part} {s N : Rat} {A B : Nat} (h : SuB L s N A B) : 0 < N := by
  obtain ⟨_, a, b, p, q, _, e, _, p0, q0, _⟩ := h
  rw [e]
  exact quot_pos p0 q0
theorem SuB.len {L : List Part} {s N : Rat} {A B : Nat} (h : SuB L s N A B) : L.length ≤ 1 := h.1.len h.pos
theorem divInt_mul_nat {a c : Int} {b d : Nat} : Rat.divInt a (b : Int) * Rat.divInt c (d : Int) = Rat.divInt (a * c) ((b * d : Nat) : Int) := by
  rw [Rat.divInt_mul_divInt, Int.natCast_mul]
theorem SuB.fit {L : List Part} {s N : Rat} {A B : Nat} (h : SuB L s N A B) : ∃ D : Nat, 0 < D ∧ D < 2 ^ (A + B) ∧ Fit D (A + (B + B)) (B + B) L := by
  obtain ⟨hS, a, b, p, q, e1, e2, b0, p0, q0, al, bl, pl, ql⟩ := h
  refine ⟨b * q, Nat.mul_pos b0 q0, ?_, ?_⟩
  · rw [Nat.pow_add]
    exact Nat.mul_lt_mul'' bl ql
  obtain ⟨sq, f, s0, hf, e⟩ := sq_part (p * q) (Nat.mul_pos p0 q0)
  have R := sq_rt e hf s0 q0
  rw [← e2] at R
  have pq : p * q < 2 ^ (B + B) := by
    rw [Nat.pow_add]
    exact Nat.mul_lt_mul'' pl ql
  have fl : f < 2 ^ (B + B) := Nat.lt_of_le_of_lt (by rw [e]; exact Nat.le_mul_of_pos_left _ (Nat.mul_pos s0 s0)) pq
  have sl : sq < 2 ^ (B + B) := Nat.lt_of_le_of_lt (by rw [e]; exact Nat.le_trans (Nat.le_mul_of_pos_right _ s0) (Nat.le_mul_of_pos_right _ hf.pos)) pq
  rcases hS.shape with ⟨rfl, _⟩ | h
  · exact ⟨TCR.canon_nil, (fun x hx => by cases hx), (fun x hx => by cases hx), (fun x hx => by cases hx)⟩
  obtain ⟨eL, nz⟩ := h _ _ R
  have eq : s * Rat.divInt (sq : Int) (q : Int) = Rat.divInt (a * sq) ((b * q : Nat) : Int) := by rw [e1, divInt_mul_nat]
  have bq : 0 < b * q := Nat.mul_pos b0 q0
  refine ⟨hS.can, fun x hx => ?_, fun x hx => ?_, fun x hx => ?_⟩ <;> rw [eL] at hx <;> rw [List.mem_singleton.mp hx]
  · show (s * Rat.divInt (sq : Int) (q : Int)).den ∣ b * q
    rw [eq]
    exact den_divInt bq
  · show (s * Rat.divInt (sq : Int) (q : Int)).num.natAbs < 2 ^ (A + (B + B))
    rw [eq]
    have lo := (TCM.low_abs (a * (sq : Int)) ((b * q : Nat) : Int) (by omega)).1
    rw [TCR.low_rat _ _ (by omega)] at lo
    exact Nat.lt_of_le_of_lt lo (wide_lt al (nat_bits sl))
  · have := hf.pos
    exact ⟨by show (0 : Int) < (f : Int); omega, by show ((f : Nat) : Int).natAbs < _; rw [Int.natAbs_natCast]; exact fl⟩
theorem SuB.mk' {L : List Part} {s N : Rat} (h : Su L s N) {A B : Nat} {a : Int} {b p q : Nat} (e1 : s = Rat.divInt a (b : Int)) (e2 : N = (p : Rat) / (q : Rat)) (b0 : 0 < b) (p0 : 0 < p) (q0 : 0 < q) (al : a.natAbs < 2 ^ A) (bl : b < 2 ^ A) (pl : p < 2 ^ B) (ql : q < 2 ^ B) : SuB L s N A B :=
  ⟨h, a, b, p, q, e1, e2, b0, p0, q0, al, bl, pl, ql⟩
theorem SuB.mono {L : List Part} {s N : Rat} {A B A' B' : Nat} (h : SuB L s N A B) (hA : A ≤ A') (hB : B ≤ B') : SuB L s N A' B' := by
  obtain ⟨hS, a, b, p, q, e1, e2, b0, p0, q0, al, bl, pl, ql⟩ := h
  have x := Nat.pow_le_pow_right (show 0 < 2 by decide) hA
  have y := Nat.pow_le_pow_right (show 0 < 2 by decide) hB
  exact ⟨hS, a, b, p, q, e1, e2, b0, p0, q0, by omega, by omega, by omega, by omega⟩
theorem cov_can {L : List Part} (h : TCR.Canon L) : Cov (TCR.val L) (L.map (·.1)) := by
  refine ⟨?_, fun r hr => ?_⟩
  · refine List.pairwise_map.mpr (h.srt.imp fun {a b} z => ?_)
    omega
  · obtain ⟨q, hq⟩ := h.val_ne.mp hr
    exact List.mem_map.mpr ⟨_, hq, rfl⟩
/-- products -/
theorem Su.times {L M K : List Part} {s s' N N' : Rat} (h : Su L s N) (h' : Su M s' N') (hN : 0 < N) (hN' : 0 < N') (cK : TCR.Canon K) (hv : ∀ u, TCR.val K u = prodG (L.map (·.1)) (M.map (·.1)) (TCR.val L) (TCR.val M) u) : Su K (s * s') (N * N') := by
  refine ⟨cK, fun u => ?_⟩
  have R := rt_ok hN
  have R' := rt_ok hN'
  have R2 := R.mul R'
  have c1 : Cov (TCR.val L) [((rF N : Nat) : Int)] := ⟨by simp, fun r hr => by
    rw [h.v, R.sv] at hr
    exact List.mem_singleton.mpr (Classical.byContradiction fun z => hr (if_neg z))⟩
  have c2 : Cov (TCR.val M) [((rF N' : Nat) : Int)] := ⟨by simp, fun r hr => by
    rw [h'.v, R'.sv] at hr
    exact List.mem_singleton.mpr (Classical.byContradiction fun z => hr (if_neg z))⟩
  rw [hv u, prodG_supp (cov_can h.can) c1 (cov_can h'.can) c2 u, R2.sv]
  show (((if mulR ((rF N : Nat) : Int) ((rF N' : Nat) : Int) = u then TCR.val L ((rF N : Nat) : Int) * TCR.val M ((rF N' : Nat) : Int) * ((gR ((rF N : Nat) : Int) ((rF N' : Nat) : Int) : Int) : Rat) else 0) + 0) + 0) = _
  rw [Rat.add_zero, Rat.add_zero, mulR_nat, gR_nat, h.v, h'.v, R.sv, R'.sv, if_pos rfl, if_pos rfl]
  by_cases z : u = ((rF N / Nat.gcd (rF N) (rF N') * (rF N' / Nat.gcd (rF N) (rF N')) : Nat) : Int)
  · rw [if_pos z.symm, if_pos z]
    show s * rQ N * (s' * rQ N') * ((Nat.gcd (rF N) (rF N') : Nat) : Rat) = s * s' * (rQ N * rQ N' * ((Nat.gcd (rF N) (rF N') : Nat) : Rat))
    grind
  · rw [if_neg fun y => z y.symm, if_neg z]
theorem SuB.times {L M K : List Part} {s s' N N' : Rat} {A B A' B' : Nat} (h : SuB L s N A B) (h' : SuB M s' N' A' B') (cK : TCR.Canon K) (hv : ∀ u, TCR.val K u = prodG (L.map (·.1)) (M.map (·.1)) (TCR.val L) (TCR.val M) u) : SuB K (s * s') (N * N') (A + A') (B + B') := by
  have S := h.1.times h'.1 h.pos h'.pos cK hv
  obtain ⟨_, a, b, p, q, e1, e2, b0, p0, q0, al, bl, pl, ql⟩ := h
  obtain ⟨_, a', b', p', q', e1', e2', b0', p0', q0', al', bl', pl', ql'⟩ := h'
  refine ⟨S, a * a', b * b', p * p', q * q', ?_, ?_, Nat.mul_pos b0 b0', Nat.mul_pos p0 p0', Nat.mul_pos q0 q0', wide_lt al al', ?_, ?_, ?_⟩
  · rw [e1, e1', divInt_mul_nat]
  · rw [e2, e2', Rat.natCast_mul, Rat.natCast_mul]
    have n1 := ne_of_pos (pos_nat q0)
    have n2 := ne_of_pos (pos_nat q0')
    generalize (p : Rat) = x1
    generalize (q : Rat) = x2 at *
    generalize (p' : Rat) = x3
    generalize (q' : Rat) = x4 at *
    grind
  · rw [Nat.pow_add]; exact Nat.mul_lt_mul'' bl bl'
  · rw [Nat.pow_add]; exact Nat.mul_lt_mul'' pl pl'
  · rw [Nat.pow_add]; exact Nat.mul_lt_mul'' ql ql'
/-- sums over one root -/
theorem Su.plus {L M K : List Part} {s s' N : Rat} (h : Su L s N) (h' : Su M s' N) (cK : TCR.Canon K) (hv : ∀ r, TCR.val K r = TCR.val L r + TCR.val M r) : Su K (s + s') N :=
  ⟨cK, fun r => by rw [hv r, h.v, h'.v, sv_add]⟩
theorem SuB.plus {L M K : List Part} {s s' N : Rat} {A B A' B' : Nat} (h : SuB L s N A B) (h' : SuB M s' N A' B') (cK : TCR.Canon K) (hv : ∀ r, TCR.val K r = TCR.val L r + TCR.val M r) : SuB K (s + s') N (A + A' + 1) B := by
  have S := h.1.plus h'.1 cK hv
  obtain ⟨_, a, b, p, q, e1, e2, b0, p0, q0, al, bl, pl, ql⟩ := h
  obtain ⟨_, a', b', p', q', e1', e2', b0', p0', q0', al', bl', pl', ql'⟩ := h'
  have hb : ((b : Nat) : Int).natAbs < 2 ^ A := by rw [Int.natAbs_natCast]; exact bl
  have hb' : ((b' : Nat) : Int).natAbs < 2 ^ A' := by rw [Int.natAbs_natCast]; exact bl'
  have w1 := wide_lt al hb'
  have w2 := wide_lt hb al'
  refine ⟨S, a * b' + b * a', b * b', p, q, ?_, e2, Nat.mul_pos b0 b0', p0, q0, ?_, ?_, pl, ql⟩
  · rw [e1, e1', Rat.divInt_add_divInt _ _ (by omega) (by omega), Int.natCast_mul]
    congr 1
    grind
  · have := Int.natAbs_add_le (a * (b' : Int)) ((b : Int) * a')
    rw [Nat.pow_succ]
    omega
  · have := Nat.mul_lt_mul'' bl bl'
    rw [← Nat.pow_add] at this
    rw [Nat.pow_succ]
    omega
/-- what exact makes -/
theorem su_exact {t b r : Int} (hr : RootOk r) (r0 : 0 < r) (hb : b ≠ 0) (hi : SqF (TCM.sqOut r).2.1.toNat) (he : (TCM.sqOut r).1 * (TCM.sqOut r).1 * (TCM.sqOut r).2.1 = r) (i0 : 0 < (TCM.sqOut r).2.1) (o0 : 0 < (TCM.sqOut r).1) : Su (exL t b r) (Rat.divInt t b) (r : Rat) := by
  obtain ⟨o, ho⟩ : ∃ o : Nat, (TCM.sqOut r).1 = (o : Int) := ⟨(TCM.sqOut r).1.toNat, by omega⟩
  obtain ⟨i, hi'⟩ : ∃ i : Nat, (TCM.sqOut r).2.1 = (i : Int) := ⟨(TCM.sqOut r).2.1.toNat, by omega⟩
  rw [hi', Int.toNat_natCast] at hi
  rw [ho, hi'] at he
  have R : IsRt i (o : Rat) (r : Rat) := by
    refine ⟨hi, pos_nat (by omega), ?_⟩
    rw [← he]
    rw [Rat.intCast_mul, Rat.intCast_mul]
    rfl
  have ex : exL t b r = oneL (i : Int) (t * (o : Int)) b := by
    unfold exL
    rw [ho, hi']
  have eq : Rat.divInt (t * (o : Int)) b = Rat.divInt t b * (o : Rat) := by
    have z : ((o : Nat) : Rat) = Rat.divInt (o : Int) 1 := (Rat.num_divInt_den (((o : Nat) : Int) : Rat)).symm
    rw [z, Rat.divInt_mul_divInt, Int.mul_one]
  rw [ex]
  unfold oneL
  by_cases ht : t * (o : Int) = 0
  · rw [if_pos ht]
    have t0 : t = 0 := by
      rcases Int.mul_eq_zero.mp ht with z | z
      · exact z
      · omega
    rw [t0, Rat.zero_divInt]
    exact Su.nil _
  · rw [if_neg ht]
    refine ⟨TCR.canon_one (divInt_ne hb ht), fun u => ?_⟩
    rw [val_one, R.sv, eq]
theorem su_int {t b : Int} (hb : b ≠ 0) : Su (exL t b 1) (Rat.divInt t b) 1 := by
  have e : TCM.sqOut 1 = (1, 1, 1) := by decide +kernel
  have := su_exact (t := t) (b := b) (r := 1) root_ok1 (by decide) hb (by rw [e]; exact SqF.one) (by rw [e]; decide) (by rw [e]; decide) (by rw [e]; decide)
  exact this
theorem sub_int {t : Int} {b : Nat} {A : Nat} (hb : 0 < b) (ht : t.natAbs < 2 ^ A) (hb' : b < 2 ^ A) : SuB (exL t (b : Int) 1) (Rat.divInt t (b : Int)) 1 A 1 :=
  ⟨su_int (by omega), t, b, 1, 1, rfl, by decide +kernel, hb, by decide, by decide, ht, hb', by decide, by decide⟩
/-! ### the program's numbers so -/
theorem FnOk.imp {P : Program} {w : World} {K : PySem.W.Frag} {mg : Str → Option Value} {base : Heap} {CX : CXT} {k : Nat} {f : Addr} {fd : FuncData} {ps : List Str} {sp sp' : Sp} (F : FnOk P w K mg base CX k f fd ps sp) (h : ∀ vs H Q E, sp' vs H Q E → sp vs H Q E) : FnOk P w K mg base CX k f fd ps sp' :=
  ⟨fun vs H Q E x => F.len vs H Q E (h _ _ _ _ x), fun A outer s H args us vs Q E hr he hb hv hs => F.run A outer s H args us vs Q E hr he hb hv (h _ _ _ _ hs)⟩
def spTimesS (C : Addr) : Sp := fun vs H Q _ => ∃ (x y : Addr) (L M : List Part) (s s' N N' : Rat) (A B A' B' : Nat), vs = [.ref x, .ref y] ∧ NumAt C H x L ∧ NumAt C H y M ∧ SuB L s N A B ∧ SuB M s' N' A' B' ∧ A + B + A' + B' ≤ 2000 ∧
  ∀ z K H', Same H H' → H z = none → NumAt C H' z K → SuB K (s * s') (N * N') (A + A') (B + B') → Q (.ref z) H'
theorem timesS {C : Addr} : ∀ vs H Q E, spTimesS C vs H Q E → spTimes C vs H Q E := fun vs H Q E h => by
  obtain ⟨x, y, L, M, s, s', N, N', A, B, A', B', e, h1, h2, S1, S2, bd, q⟩ := h
  obtain ⟨D1, d1, dl1, F1⟩ := (S1.mono (Nat.le_succ A) (Nat.le_succ B)).fit
  obtain ⟨D2, d2, dl2, F2⟩ := (S2.mono (Nat.le_succ A') (Nat.le_succ B')).fit
  have l1 := S1.len
  have l2 := S2.len
  have up : ∀ {D a r R : Nat} {L : List Part}, Fit D a r L → r ≤ R → Fit D a R L := fun h hr => ⟨h.can, h.den, h.num, fun x hx => ⟨(h.pos x hx).1, Nat.lt_of_lt_of_le (h.pos x hx).2 (Nat.pow_le_pow_right (by decide) hr)⟩⟩
  refine ⟨x, y, L, M, D1, D2, _, _, _, _, (B + 1 + (B + 1)) + (B' + 1 + (B' + 1)), e, h1, h2, up F1 (by omega), up F2 (by omega), d1, d2, dl1, dl2, by omega, by omega, by omega, by omega, by omega, by omega, by omega, by omega, by omega, by omega, ?_, fun z K H' sm hz hK fK vK lK => q z K H' sm hz hK (S1.times S2 fK.can vK)⟩
  have := Nat.mul_le_mul l1 l2
  omega
def spPlusS (C : Addr) : Sp := fun vs H Q _ => ∃ (x y : Addr) (L M : List Part) (s s' N : Rat) (A B A' B' : Nat), vs = [.ref x, .ref y] ∧ NumAt C H x L ∧ NumAt C H y M ∧ SuB L s N A B ∧ SuB M s' N A' B' ∧ A + B + A' + B' ≤ 2000 ∧
  ∀ z K H', Same H H' → H z = none → NumAt C H' z K → SuB K (s + s') N (A + A' + 1) B → Q (.ref z) H'
theorem fit_good {D A R G : Nat} {L : List Part} (h : Fit D A R L) (hD : D < 2 ^ G) (hA : A ≤ G) (d0 : 0 < D) : Good G L := ⟨h.can, fun x hx => ⟨Nat.lt_of_lt_of_le (h.num x hx) (Nat.pow_le_pow_right (by decide) hA), Nat.lt_of_le_of_lt (Nat.le_of_dvd d0 (h.den x hx)) hD⟩⟩
theorem plusS {C : Addr} : ∀ vs H Q E, spPlusS C vs H Q E → spPlus C vs H Q E := fun vs H Q E h => by
  obtain ⟨x, y, L, M, s, s', N, A, B, A', B', e, h1, h2, S1, S2, bd, q⟩ := h
  obtain ⟨D1, d1, dl1, F1⟩ := (S1.mono (Nat.le_succ A) (Nat.le_succ B)).fit
  obtain ⟨D2, d2, dl2, F2⟩ := (S2.mono (Nat.le_succ A') (Nat.le_succ B')).fit
  have l1 := S1.len
  have l2 := S2.len
  refine ⟨x, y, L, M, A + 1 + (B + 1 + (B + 1)), A' + 1 + (B' + 1 + (B' + 1)), e, h1, h2, fit_good F1 (Nat.lt_of_lt_of_le dl1 (Nat.pow_le_pow_right (by decide) (by omega))) (Nat.le_refl _) d1, fit_good F2 (Nat.lt_of_lt_of_le dl2 (Nat.pow_le_pow_right (by decide) (by omega))) (Nat.le_refl _) d2, by omega, by omega, by omega, by omega, fun z K H' sm hz hK gK vK lK => q z K H' sm hz hK (S1.plus S2 gK.1 vK)⟩
/-- joined numbers -/
def jN (a u b v c w : Int) : Rat := (prodF (jAb a u b v c w) : Rat) / (prodF (jBe a b c) : Rat)
theorem su_joined {a u b v c w : Int} (h1 : PairP a u) (h2 : PairP b v) (h3 : PairP c w) (J : JoinP a b c u v w) : Su (joinL a u b v c w) ((jSum a u b v c : Int) : Rat) (jN a u b v c w) := by
  have la := jAb_lt h1 h2 h3
  have lb := jBe_lt h1 h2 h3
  have R := rootE_rt (ab := jAb a u b v c w) (be := jBe a b c) (fun n hn => by have := la n hn; omega) (fun n hn => by have := lb n hn; omega)
  refine ⟨canon_joinL _ _ _ _ _ _, fun r => ?_⟩
  unfold joinL jN
  rw [if_pos J, val_oneQ, R.sv, show Rat.divInt (jSum a u b v c) 1 = ((jSum a u b v c : Int) : Rat) from Rat.num_divInt_den ((jSum a u b v c : Int) : Rat)]
theorem su_joined0 {a u b v c w : Int} (J : ¬ JoinP a b c u v w) : joinL a u b v c w = [] := by
  unfold joinL
  rw [if_neg J]
/-- sixes -/
def sN (a b c d e f : Int) : Rat := (prodF (sAb a b c d e f) : Rat) / (prodF (sBe a b c d e f) : Rat)
theorem su_six {a b c d e f : Int} (h : SixP a b c d e f) : Su (sixL a b c d e f) ((sixS (sixTs a b c d e f) (sixOs a b c d e f) : Int) : Rat) (sN a b c d e f) := by
  have la := sAb_lt h.f
  have lb := sBe_lt h.f
  have R := rootE_rt (ab := sAb a b c d e f) (be := sBe a b c d e f) (fun n hn => by have := la n hn; omega) (fun n hn => by have := lb n hn; omega)
  refine ⟨?_, fun r => ?_⟩
  · unfold sixL
    rw [if_pos h.j]
    exact canon_oneQ _ _
  · unfold sixL sN
    rw [if_pos h.j, val_oneQ, R.sv, show Rat.divInt (sixS (sixTs a b c d e f) (sixOs a b c d e f)) 1 = ((sixS (sixTs a b c d e f) (sixOs a b c d e f) : Int) : Rat) from Rat.num_divInt_den ((sixS (sixTs a b c d e f) (sixOs a b c d e f) : Int) : Rat)]
theorem six_none {a b c d e f : Int} (h : ¬ Jn a b c d e f = true) : sixL a b c d e f = [] := by
  unfold sixL
  rw [if_neg h]
end TC
namespace TC
set_option exponentiation.threshold 20000
open PySem PySem.Spec PyProof.Rows L2 TCA TCX
/-! ### a three as a fraction times one root -/
def tI (a u b v c w : Int) : Int := if canB a b c = true then sgT a b w * jSum a u b v c else 0
def tN (a u b v c w : Int) : Rat := jN a u b v c (-w) * ((c + 1 : Int) : Rat)
theorem jN_pos (a u b v c w : Int) : 0 < jN a u b v c w := quot_pos (prodF_pos _) (prodF_pos _)
theorem pos_int {c : Int} (h : 0 < c) : (0 : Rat) < (c : Rat) := by
  have := (Rat.intCast_lt_intCast (a := 0) (b := c)).mpr h
  simpa using this
theorem tN_pos {a u b v c w : Int} (h : 0 ≤ c) : 0 < tN a u b v c w := Rat.mul_pos (jN_pos _ _ _ _ _ _) (pos_int (by omega))
theorem su_three {a u b v c w : Int} (h1 : PairP a u) (h2 : PairP b v) (h3 : PairP c w) (h0 : u + v + w = 0) : Su (threeL a u b v c w) (Rat.divInt (tI a u b v c w) (c + 1)) (tN a u b v c w) := by
  obtain ⟨cT, _, _, vT⟩ := three_facts h1 h2 h3
  have c0 := h3.t0
  have c1 := h3.t1
  have h3' : PairP c (-w) := ⟨h3.t0, h3.t1, by have := h3.hi; omega, by have := h3.lo; omega, by have := h3.ev; omega⟩
  have S1 : Su (joinL a u b v c (-w)) (((if canB a b c = true then jSum a u b v c else 0 : Int)) : Rat) (jN a u b v c (-w)) := by
    by_cases z : canB a b c = true
    · rw [if_pos z]
      exact su_joined h1 h2 h3' ⟨z, by omega⟩
    · rw [if_neg z, su_joined0 fun J => z J.1]
      exact Su.nil _
  obtain ⟨e0, e1, o0, o1, i0, i1, hb⟩ := sq42 (c + 1).toNat (by omega) (by omega)
  have ec : (((c + 1).toNat : Nat) : Int) = c + 1 := by omega
  rw [ec] at e0
  have ro := rootOk42 (n := (c + 1).toNat) (by omega) (by omega)
  rw [ec] at ro
  have S2 := su_exact (t := sgT a b w) (b := c + 1) ro (by omega) (by omega) (by rw [e0]; show SqF (((sqI (c + 1).toNat : Nat) : Int)).toNat; rw [Int.toNat_natCast]; exact sqf_of hb i0 (by omega)) (by
    rw [e0]
    show ((sqO (c + 1).toNat : Nat) : Int) * ((sqO (c + 1).toNat : Nat) : Int) * ((sqI (c + 1).toNat : Nat) : Int) = c + 1
    rw [← Int.natCast_mul, ← Int.natCast_mul, e1, ec]) (by rw [e0]; show 0 < ((sqI (c + 1).toNat : Nat) : Int); omega) (by rw [e0]; show 0 < ((sqO (c + 1).toNat : Nat) : Int); omega)
  have eM : exL (sgT a b w) (c + 1) (c + 1) = [(((sqI (c + 1).toNat : Nat) : Int), byT c * (sgT a b w : Int))] := by
    unfold exL oneL
    rw [e0, byT_sg a b w c0]
    dsimp only
    rw [if_neg (Int.mul_ne_zero (sgT_ne a b w) (by omega))]
  rw [eM] at S2
  refine (S1.times S2 (jN_pos _ _ _ _ _ _) (pos_int (by omega)) cT fun r => ?_).of ?_ rfl
  · rw [vT r]
    congr 1
    funext s
    exact (val_one _ _ _).symm
  · unfold tI
    rw [Rat.divInt_eq_div, Rat.divInt_eq_div]
    by_cases z : canB a b c = true
    · rw [if_pos z, if_pos z, Rat.intCast_mul, Rat.div_def, Rat.div_def, ← Rat.mul_assoc, Rat.mul_comm ((jSum a u b v c : Int) : Rat)]
    · rw [if_neg z, if_neg z, Rat.div_def]
      show (0 : Rat) * _ = 0 * _
      rw [Rat.zero_mul, Rat.zero_mul]
/-! ### bounds for sizes to 6 -/
theorem fact_lt10 : ∀ n, n < 11 → factN n < 2 ^ 22 := by decide +kernel
theorem fact_lt6 : ∀ n, n < 7 → factN n < 2 ^ 10 := by decide +kernel
theorem prodF_lt10 : ∀ {l : List Nat}, (∀ n ∈ l, n < 11) → prodF l < 2 ^ (22 * l.length + 1)
  | [], _ => by decide
  | n :: l, h => by
    have h1 := prodF_lt10 (l := l) fun m hm => h m (List.mem_cons_of_mem _ hm)
    show factN n * prodF l < 2 ^ (22 * (l.length + 1) + 1)
    rw [show 22 * (l.length + 1) + 1 = 22 + (22 * l.length + 1) by omega, Nat.pow_add]
    exact Nat.mul_lt_mul'' (fact_lt10 n (h n (by simp))) h1
theorem comK_lt6 {A B C : Nat} {D E : Int} (h1 : A < 7) (h2 : B + D < 7) (h3 : C + E < 7) : comK A B C D E < 2 ^ 30 := by
  unfold comK
  have a1 := fact_lt6 A h1
  have a2 := fact_lt6 (B + D).toNat (by omega)
  have a3 := fact_lt6 (C + E).toNat (by omega)
  have z := Nat.mul_lt_mul'' (Nat.mul_lt_mul'' a1 a2) a3
  rw [← Nat.pow_add, ← Nat.pow_add] at z
  exact z
theorem sgT_abs (a b w : Int) : (sgT a b w).natAbs = 1 := by
  unfold sgT
  split <;> rfl
theorem tI_lt {a u b v c w : Int} (h1 : PairP a u) (h2 : PairP b v) (h3 : PairP c w) (h0 : u + v + w = 0) (ha : a ≤ 6) (hb : b ≤ 6) (hc : c ≤ 6) : (tI a u b v c w).natAbs < 2 ^ 34 := by
  unfold tI
  by_cases z : canB a b c = true
  · rw [if_pos z, Int.natAbs_mul, sgT_abs, Nat.one_mul]
    have h3' : PairP c (-w) := ⟨h3.t0, h3.t1, by have := h3.hi; omega, by have := h3.lo; omega, by have := h3.ev; omega⟩
    have T := tmp_of h1 h2 h3' ⟨z, by omega⟩
    have cl : jCom a u b v c < 2 ^ 30 := by
      obtain ⟨a0, a1, a2, a3, a4⟩ := h1
      obtain ⟨b0, b1, b2, b3, b4⟩ := h2
      obtain ⟨c0, c1, c2, c3, c4⟩ := h3
      obtain ⟨k1, k2, k3, k4⟩ := canB_iff.mp z
      unfold jCom
      exact comK_lt6 (by unfold jA; omega) (by unfold jB jD; omega) (by unfold jC jE; omega)
    have A6 : jA a b c < 7 := by
      obtain ⟨a0, a1, a2, a3, a4⟩ := h1
      obtain ⟨b0, b1, b2, b3, b4⟩ := h2
      obtain ⟨k1, k2, k3, k4⟩ := canB_iff.mp z
      unfold jA
      omega
    have y := sumK_le (f := jT a u b v c) (tmK_le _ _ _ _ _) (jA a b c + 1)
    refine Nat.lt_of_le_of_lt y ?_
    have y : jA a b c + 1 < 2 ^ 4 := by omega
    have x := Nat.mul_lt_mul'' y cl
    rw [← Nat.pow_add] at x
    exact x
  · rw [if_neg z]
    decide
theorem sub_three {a u b v c w : Int} (h1 : PairP a u) (h2 : PairP b v) (h3 : PairP c w) (h0 : u + v + w = 0) (ha : a ≤ 6) (hb : b ≤ 6) (hc : c ≤ 6) : SuB (threeL a u b v c w) (Rat.divInt (tI a u b v c w) (c + 1)) (tN a u b v c w) 34 160 := by
  have S := su_three h1 h2 h3 h0
  have tl := tI_lt h1 h2 h3 h0 ha hb hc
  have la : prodF (jAb a u b v c (-w)) < 2 ^ 155 := by
    refine prodF_lt10 (l := jAb a u b v c (-w)) ?_
    obtain ⟨a0, a1, a2, a3, a4⟩ := h1
    obtain ⟨b0, b1, b2, b3, b4⟩ := h2
    obtain ⟨c0, c1, c2, c3, c4⟩ := h3
    intro n hn
    unfold jAb at hn
    simp only [List.mem_cons, List.not_mem_nil, or_false] at hn
    omega
  have lb : prodF (jBe a b c) < 2 ^ 155 := by
    refine Nat.lt_of_lt_of_le (prodF_lt10 (l := jBe a b c) ?_) (Nat.pow_le_pow_right (by decide) (by show 22 * 5 + 1 ≤ 155; decide))
    obtain ⟨a0, a1, a2, a3, a4⟩ := h1
    obtain ⟨b0, b1, b2, b3, b4⟩ := h2
    obtain ⟨c0, c1, c2, c3, c4⟩ := h3
    intro n hn
    unfold jBe at hn
    simp only [List.mem_cons, List.not_mem_nil, or_false] at hn
    omega
  have c0 := h3.t0
  obtain ⟨n, rfl⟩ : ∃ n : Nat, c = (n : Int) := ⟨c.toNat, by omega⟩
  have n8 : n + 1 < 2 ^ 4 := by omega
  have pa := prodF_pos (jAb a u b v (n : Int) (-w))
  have pb := prodF_pos (jBe a b (n : Int))
  refine SuB.mk' S (a := tI a u b v n w) (b := n + 1) (p := prodF (jAb a u b v (n : Int) (-w)) * (n + 1)) (q := prodF (jBe a b (n : Int))) (by rw [Int.natCast_add]; rfl) ?_ (by omega) (Nat.mul_pos pa (by omega)) pb tl (Nat.lt_trans n8 (by decide)) ?_ (Nat.lt_trans lb (by decide))
  · unfold tN jN
    rw [show (((n : Int) + 1 : Int) : Rat) = ((n + 1 : Nat) : Rat) from rfl, Rat.natCast_mul, Rat.div_def, Rat.div_def]
    grind
  · have := Nat.mul_lt_mul'' la n8
    rw [← Nat.pow_add] at this
    exact Nat.lt_of_lt_of_le this (by decide)
/-! ### products of threes -/
abbrev T6 := Int × Int × Int × Int × Int × Int
namespace T6
set_option exponentiation.threshold 20000
def S (t : T6) : Rat := Rat.divInt (tI t.1 t.2.1 t.2.2.1 t.2.2.2.1 t.2.2.2.2.1 t.2.2.2.2.2) (t.2.2.2.2.1 + 1)
def N (t : T6) : Rat := tN t.1 t.2.1 t.2.2.1 t.2.2.2.1 t.2.2.2.2.1 t.2.2.2.2.2
def L (t : T6) : List Part := threeL t.1 t.2.1 t.2.2.1 t.2.2.2.1 t.2.2.2.2.1 t.2.2.2.2.2
/-- sizes to 6, offsets of them that add up to 0 -/
structure Ok (t : T6) : Prop where
  p1 : PairP t.1 t.2.1
  p2 : PairP t.2.2.1 t.2.2.2.1
  p3 : PairP t.2.2.2.2.1 t.2.2.2.2.2
  z : t.2.1 + t.2.2.2.1 + t.2.2.2.2.2 = 0
  l1 : t.1 ≤ 6
  l2 : t.2.2.1 ≤ 6
  l3 : t.2.2.2.2.1 ≤ 6
theorem Ok.sub {t : T6} (h : t.Ok) : SuB t.L t.S t.N 34 160 := sub_three h.p1 h.p2 h.p3 h.z h.l1 h.l2 h.l3
end T6
def proS (l : List T6) : Rat := l.foldl (fun s t => s * t.S) 1
def proN (l : List T6) : Rat := l.foldl (fun s t => s * t.N) 1
theorem proS_snoc (l : List T6) (t : T6) : proS (l ++ [t]) = proS l * t.S := by
  unfold proS
  rw [List.foldl_append]
  rfl
theorem proN_snoc (l : List T6) (t : T6) : proN (l ++ [t]) = proN l * t.N := by
  unfold proN
  rw [List.foldl_append]
  rfl
/-! ### the four threes of a six -/
def facP (s o : Int) : Nat := factN ((s + o) / 2).toNat * factN ((s - o) / 2).toNat
theorem facP_neg (s o : Int) : facP s (-o) = facP s o := by
  unfold facP
  rw [show s + -o = s - o by omega, show s - -o = s + o by omega, Nat.mul_comm]
theorem facP_pos (s o : Int) : 0 < facP s o := Nat.mul_pos (fact_pos _) (fact_pos _)
def triP (a b c : Int) : Nat := prodF (ab3 [a, b, c])
def triS (a b c : Int) : Nat := factN (be1 [a, b, c])
theorem tN_eq {a u b v c w : Int} (hc : 0 ≤ c) : tN a u b v c w = (triP a b c : Rat) / (triS a b c : Rat) * ((facP a u * facP b v * facP c w : Nat) : Rat) * ((((c + 1 : Int) : Rat) / (triP a b c : Rat)) * (((c + 1 : Int) : Rat) / (triP a b c : Rat))) := by
  obtain ⟨n, rfl⟩ : ∃ n : Nat, c = (n : Int) := ⟨c.toNat, by omega⟩
  have e1 : prodF (jAb a u b v (n : Int) (-w)) = (n + 1) * factN n * (facP a u * facP b v * facP (n : Int) w) := by
    show factN ((n : Int) + 1).toNat * (factN ((a + u) / 2).toNat * (factN ((a - u) / 2).toNat * (factN ((b + v) / 2).toNat * (factN ((b - v) / 2).toNat * (factN (((n : Int) + -w) / 2).toNat * (factN (((n : Int) - -w) / 2).toNat * 1)))))) = _
    rw [show ((n : Int) + 1).toNat = n + 1 by omega, show (n : Int) + -w = n - w by omega, show (n : Int) - -w = n + w by omega]
    show (n + 1) * factN n * _ = _
    unfold facP
    rw [Nat.mul_one]
    ac_rfl
  have e2 : prodF (jBe a b (n : Int)) = factN n * (triS a b n * triP a b n) := by
    show factN (n : Int).toNat * (factN ((a + b + (n : Int)) / 2 + 1).toNat * (factN ((a + b - (n : Int)) / 2).toNat * (factN ((a - b + (n : Int)) / 2).toNat * (factN ((b - a + (n : Int)) / 2).toNat * 1)))) = _
    rw [Int.toNat_natCast, show b - a + (n : Int) = b + n - a by omega]
    rfl
  have f0 := ne_of_pos (pos_nat (fact_pos n))
  have s0 := ne_of_pos (pos_nat (show 0 < triS a b n from fact_pos _))
  have p0 := ne_of_pos (pos_nat (show 0 < triP a b n from prodF_pos _))
  unfold tN jN
  rw [e1, e2, show (((n : Int) + 1 : Int) : Rat) = ((n + 1 : Nat) : Rat) from rfl]
  generalize (facP a u * facP b v * facP (n : Int) w) = X
  simp only [Rat.natCast_mul]
  generalize ((n + 1 : Nat) : Rat) = x1
  generalize (factN n : Rat) = x2 at *
  generalize (X : Rat) = x3
  generalize (triS a b n : Rat) = x4 at *
  generalize (triP a b n : Rat) = x5 at *
  grind
/-- all four -/
def triU (a b c d e f u v x w y z : Int) : List T6 := [(a, -u, b, -v, c, -w), (a, u, e, -y, f, z), (d, x, b, v, f, -z), (d, -x, e, y, c, w)]
def triI (a b c d e f u v x w y z : Int) : Int := tI a (-u) b (-v) c (-w) * tI a u e (-y) f z * (tI d x b v f (-z) * tI d (-x) e y c w)
def triF (a b c d e f u v x w y z : Int) : Nat := facP a u * facP b v * facP c w * (facP d x * facP e y * facP f z)
theorem sAb_four (a b c d e f : Int) : prodF (sAb a b c d e f) = triP a b c * (triP a e f * (triP d b f * triP d e c)) := by
  show prodF (ab3 [a, b, c] ++ (ab3 [a, e, f] ++ (ab3 [d, b, f] ++ (ab3 [d, e, c] ++ [])))) = _
  rw [prodF_append, prodF_append, prodF_append, List.append_nil]
  rfl
theorem sBe_four (a b c d e f : Int) : prodF (sBe a b c d e f) = triS a b c * (triS a e f * (triS d b f * triS d e c)) := by
  show triS a b c * (triS a e f * (triS d b f * (triS d e c * 1))) = _
  rw [Nat.mul_one]
theorem sN_pos (a b c d e f : Int) : 0 < sN a b c d e f := quot_pos (prodF_pos _) (prodF_pos _)
theorem div4 {p1 p2 p3 p4 s1 s2 s3 s4 : Rat} (h1 : s1 ≠ 0) (h2 : s2 ≠ 0) (h3 : s3 ≠ 0) (h4 : s4 ≠ 0) : p1 * (p2 * (p3 * p4)) / (s1 * (s2 * (s3 * s4))) = p1 / s1 * (p2 / s2) * (p3 / s3 * (p4 / s4)) := by
  grind
theorem four_n {q1 q2 q3 q4 x1 x2 x3 x4 x5 x6 z1 z2 z3 z4 : Rat} : 1 * (q1 * (x1 * x2 * x3) * (z1 * z1)) * (q2 * (x1 * x5 * x6) * (z2 * z2)) * (q3 * (x4 * x2 * x6) * (z3 * z3)) * (q4 * (x4 * x5 * x3) * (z4 * z4)) * 1 = q1 * q2 * (q3 * q4) * ((x1 * x2 * x3 * (x4 * x5 * x6) * (z1 * z2 * (z3 * z4))) * (x1 * x2 * x3 * (x4 * x5 * x6) * (z1 * z2 * (z3 * z4)))) := by
  grind
theorem one_s {i y p : Rat} (h : y ≠ 0) : i / y * (y / p) = i / p := by
  grind
theorem four_s {i1 i2 i3 i4 y1 y2 p1 p2 p3 p4 g f : Rat} (h1 : y1 ≠ 0) (h2 : y2 ≠ 0) (m1 : p1 ≠ 0) (m2 : p2 ≠ 0) (m3 : p3 ≠ 0) (m4 : p4 ≠ 0) : 1 * (i1 / y1) * (i2 / y2) * (i3 / y2) * (i4 / y1) * g * (f * (y1 / p1 * (y2 / p2) * (y2 / p3 * (y1 / p4)))) = g * (i1 * i2 * (i3 * i4) * f) / (p1 * (p2 * (p3 * p4))) := by
  have e : 1 * (i1 / y1) * (i2 / y2) * (i3 / y2) * (i4 / y1) * g * (f * (y1 / p1 * (y2 / p2) * (y2 / p3 * (y1 / p4)))) = g * f * ((i1 / y1 * (y1 / p1)) * (i2 / y2 * (y2 / p2)) * ((i3 / y2 * (y2 / p3)) * (i4 / y1 * (y1 / p4)))) := by grind
  rw [e, one_s h1, one_s h2, one_s h2, one_s h1, ← div4 m1 m2 m3 m4, Rat.div_def, Rat.div_def]
  grind
theorem four_su {K : List Part} {a b c d e f u v x w y z sg : Int} (hc : 0 ≤ c) (hf : 0 ≤ f) (h : Su K (proS (triU a b c d e f u v x w y z) * Rat.divInt sg 1) (proN (triU a b c d e f u v x w y z) * 1)) :
    Su K (Rat.divInt (sg * (triI a b c d e f u v x w y z * (triF a b c d e f u v x w y z : Int))) (prodF (sAb a b c d e f) : Int)) (sN a b c d e f) := by
  have n1 := pos_nat (show 0 < triP a b c from prodF_pos _)
  have n2 := pos_nat (show 0 < triP a e f from prodF_pos _)
  have n3 := pos_nat (show 0 < triP d b f from prodF_pos _)
  have n4 := pos_nat (show 0 < triP d e c from prodF_pos _)
  have m1 := ne_of_pos (pos_nat (show 0 < triS a b c from fact_pos _))
  have m2 := ne_of_pos (pos_nat (show 0 < triS a e f from fact_pos _))
  have m3 := ne_of_pos (pos_nat (show 0 < triS d b f from fact_pos _))
  have m4 := ne_of_pos (pos_nat (show 0 < triS d e c from fact_pos _))
  have c1 := pos_int (show 0 < c + 1 by omega)
  have f1 := pos_int (show 0 < f + 1 by omega)
  have eF : (triF a b c d e f u v x w y z : Rat) = (facP a u : Rat) * (facP b v : Rat) * (facP c w : Rat) * ((facP d x : Rat) * (facP e y : Rat) * (facP f z : Rat)) := by
    unfold triF
    simp only [Rat.natCast_mul]
  have g0 := pos_nat (show 0 < triF a b c d e f u v x w y z from Nat.mul_pos (Nat.mul_pos (Nat.mul_pos (facP_pos _ _) (facP_pos _ _)) (facP_pos _ _)) (Nat.mul_pos (Nat.mul_pos (facP_pos _ _) (facP_pos _ _)) (facP_pos _ _)))
  have dp : ∀ {p q : Rat}, 0 < p → 0 < q → 0 < p / q := fun h1 h2 => by
    rw [Rat.div_def]
    exact Rat.mul_pos h1 (Rat.inv_pos.mpr h2)
  have key : proN (triU a b c d e f u v x w y z) * 1 = sN a b c d e f * (((triF a b c d e f u v x w y z : Rat) * (((c + 1 : Int) : Rat) / (triP a b c : Rat) * (((f + 1 : Int) : Rat) / (triP a e f : Rat)) * (((f + 1 : Int) : Rat) / (triP d b f : Rat) * (((c + 1 : Int) : Rat) / (triP d e c : Rat))))) * ((triF a b c d e f u v x w y z : Rat) * (((c + 1 : Int) : Rat) / (triP a b c : Rat) * (((f + 1 : Int) : Rat) / (triP a e f : Rat)) * (((f + 1 : Int) : Rat) / (triP d b f : Rat) * (((c + 1 : Int) : Rat) / (triP d e c : Rat)))))) := by
    have e0 : proN (triU a b c d e f u v x w y z) = 1 * tN a (-u) b (-v) c (-w) * tN a u e (-y) f z * tN d x b v f (-z) * tN d (-x) e y c w := rfl
    rw [e0, tN_eq hc, tN_eq hf, tN_eq hf, tN_eq hc, eF]
    simp only [facP_neg]
    unfold sN
    rw [sAb_four, sBe_four]
    simp only [Rat.natCast_mul]
    rw [div4 m1 m2 m3 m4]
    exact four_n
  rw [key] at h
  refine (h.scale (sN_pos _ _ _ _ _ _) (Rat.mul_pos g0 (Rat.mul_pos (Rat.mul_pos (dp c1 n1) (dp f1 n2)) (Rat.mul_pos (dp f1 n3) (dp c1 n4))))).of ?_ rfl
  have e0 : proS (triU a b c d e f u v x w y z) = 1 * Rat.divInt (tI a (-u) b (-v) c (-w)) (c + 1) * Rat.divInt (tI a u e (-y) f z) (f + 1) * Rat.divInt (tI d x b v f (-z)) (f + 1) * Rat.divInt (tI d (-x) e y c w) (c + 1) := rfl
  rw [e0]
  simp only [Rat.divInt_eq_div]
  rw [show ((1 : Int) : Rat) = 1 from rfl, show ∀ q : Rat, q / 1 = q from fun q => by grind, sAb_four, four_s (ne_of_pos c1) (ne_of_pos f1) (ne_of_pos n1) (ne_of_pos n2) (ne_of_pos n3) (ne_of_pos n4)]
  unfold triI
  simp only [Rat.intCast_mul, Int.natCast_mul]
  rfl
end TC
namespace TC
set_option exponentiation.threshold 20000
open PySem PySem.Spec PyProof.Rows L2 TCA TCX
section
variable {P : Program} {w : World} {K : PySem.W.Frag} {mg : Str → Option Value} {base : Heap} {f : Addr} {fd : FuncData} {C fI fQ : Addr}
def spIsOffset2 : Sp := fun vs H Q _ => ∃ t o : Int, vs = [.int o, .int t] ∧ (t - o) % 2 = 0 ∧ Q (.bl (decide (-t ≤ o ∧ o ≤ t))) H
theorem ok_isOffset2 {fW fO : Addr} {fdW fdO : FuncData} (F : FnP K "is_offset" sIsOffset f fd) (GW : FnOk P w K mg base CX0 1 fW fdW ["thing"] spWhole) (bW : L2.Binds K fdW ["thing"] []) (kW : PySem.W.keepIn K (.ref fW) = true) (gW : mg "is_whole" = some (.ref fW))
    (GO : FnOk P w K mg base CX0 1 fO fdO ["number"] spOdd) (bO : L2.Binds K fdO ["number"] []) (kO : PySem.W.keepIn K (.ref fO) = true) (gO : mg "is_odd" = some (.ref fO)) :
    FnOk P w K mg base CX0 2 f fd ["thing", "size"] spIsOffset2 := by
  refine F.ok scIsOffset (fun vs H Q E h => ?_) (fun cdv A outer s H vs Q E hr h => ?_)
  · obtain ⟨_, _, rfl, _⟩ := h
    rfl
  obtain ⟨t, o, rfl, h3, q⟩ := h
  have hr1 := hr.mono (j := 1) (by decide)
  refine ⟨_, PSs.nox (pss_one (ps_ret (pe_and (pe_call GW hr1 (by rfl) gW kW bW .nil pass0 (pa_cons (pv 0) pa_nil)) (pe_and (pe_chain op_le op_le (pe_un un_neg (pv 1)) (pv 0) (pv 1)) (pe_one (pe_not (pe_call GO hr1 (by rfl) gO kO bO .nil pass0 (pa_cons (pe_op op_sub (pv 1) (pv 0)) pa_nil)))))))), ?_⟩
  refine ⟨_, rfl, o, rfl, true, rfl, iteT ?_⟩
  by_cases h1 : -t ≤ o
  · by_cases h2 : o ≤ t
    · rw [decide_eq_true ⟨h1, h2⟩] at q
      refine ⟨_, rfl, t, rfl, _, rfl, -t, o, rfl, rfl, true, congrArg V.bl (decide_eq_true h1), iteT ?_⟩
      refine ⟨_, rfl, o, t, rfl, rfl, true, congrArg V.bl (decide_eq_true h2), iteT ?_⟩
      exact ⟨_, rfl, _, rfl, t, o, rfl, rfl, t - o, rfl, false, congrArg V.bl (decide_eq_false (by omega)), q⟩
    · rw [decide_eq_false (fun z => h2 z.2)] at q
      refine ⟨_, rfl, t, rfl, _, rfl, -t, o, rfl, rfl, true, congrArg V.bl (decide_eq_true h1), iteT ?_⟩
      exact ⟨_, rfl, o, t, rfl, rfl, false, congrArg V.bl (decide_eq_false h2), iteF q⟩
  · rw [decide_eq_false (fun z => h1 z.1)] at q
    refine ⟨_, rfl, t, rfl, _, rfl, -t, o, rfl, rfl, false, congrArg V.bl (decide_eq_false h1), iteF ?_⟩
    exact ⟨_, rfl, iteF q⟩
/-! ### offsets -/
def spOffsets : Sp := fun vs H Q _ => ∃ t : Int, vs = [.int t] ∧ 0 ≤ t ∧ t ≤ 40 ∧ ∀ l H', Same H H' → H l = none → H' l = some (.lst (upV (-t) (t.toNat + 1))) → Q (.ref l) H'
abbrev nOffsets : List Str := ["size"]
theorem scOffsets : FnScope nOffsets ["size"] (defScope sOffsets) := ⟨rfl, rfl, rfl, by decide +kernel, rfl, by decide +kernel, by decide +kernel⟩
theorem ok_offsets {fN : Addr} {fdN : FuncData} (F : FnP K "offsets" sOffsets f fd) (GN : FnOk P w K mg base CX0 3 fN fdN ["things"] spNeedSizes) (bN : L2.Binds K fdN ["things"] []) (kN : PySem.W.keepIn K (.ref fN) = true) (gN : mg "need_sizes" = some (.ref fN)) (grange : mg "range" = none) (glist : mg "list" = none) :
    FnOk P w K mg base CX0 4 f fd ["size"] spOffsets := by
  refine F.ok scOffsets (fun vs H Q E h => ?_) (fun cdv Ar outer s H vs Q E hr h => ?_)
  · obtain ⟨_, rfl, _⟩ := h
    rfl
  obtain ⟨t, rfl, t0, t1, q⟩ := h
  refine ⟨_, PSs.nox (pss_cons (ps_expr (pe_call GN hr (by rfl) gN kN bN .nil pass0 (pa_cons (pe_lst (pa_cons (pv 0) pa_nil)) pa_nil)))
    (pss_one (ps_ret (pe_list2 rfl (by rfl) glist (by rfl) grange (pa_cons (pe_un un_neg (pv 0)) (pa_cons (pe_op op_add (pv 0) pe_int) (pa_cons pe_int pa_nil))))))), ?_⟩
  refine ⟨_, rfl, by show 1 ≤ sizeLine; decide, fun l0 hl0 => ?_⟩
  have s1 := same_upd (o := .lst [V.int t]) hl0
  refine ⟨l0, [t], rfl, upd_same, fun n hn => by rw [List.mem_singleton.mp hn]; exact ⟨t0, t1⟩, ?_⟩
  refine ⟨_, rfl, t, rfl, _, rfl, t, 1, rfl, rfl, -t, t + 1, t.toNat + 1, rfl, by omega, by omega, by omega, by omega, size2 (by omega) (by omega), fun l hl => ?_⟩
  exact q l _ (s1.trans (same_upd hl)) (s1.free hl) upd_same
/-! ### sizes_of -/
def spSizesOf : Sp := fun vs H Q _ => ∃ (a b m : Int), vs = [.int a, .int b] ∧ 0 ≤ a ∧ a ≤ 12 ∧ 0 ≤ b ∧ b ≤ 12 ∧ m = (if a < b then a else b) ∧ ∀ l H', Same H H' → H l = none → H' l = some (.lst (upV (if a - b < 0 then -(a - b) else a - b) (m.toNat + 1))) → Q (.ref l) H'
abbrev nSizesOf : List Str := ["one", "other"]
theorem scSizesOf : FnScope nSizesOf ["one", "other"] (defScope sSizesOf) := ⟨rfl, rfl, rfl, by decide +kernel, rfl, by decide +kernel, by decide +kernel⟩
theorem ok_sizesOf {fN : Addr} {fdN : FuncData} {tH : Tok} (F : FnP K "sizes_of" sSizesOf f fd) (GN : FnOk P w K mg base CX0 3 fN fdN ["things"] spNeedSizes) (bN : L2.Binds K fdN ["things"] []) (kN : PySem.W.keepIn K (.ref fN) = true) (gN : mg "need_sizes" = some (.ref fN)) (gH : mg "HIGHEST_SIZE" = some (.int 40 tH)) (gabs : mg "abs" = none) (gmin : mg "min" = none) (grange : mg "range" = none) (glist : mg "list" = none) :
    FnOk P w K mg base CX0 4 f fd ["one", "other"] spSizesOf := by
  refine F.ok scSizesOf (fun vs H Q E h => ?_) (fun cdv Ar outer s H vs Q E hr h => ?_)
  · obtain ⟨_, _, _, rfl, _⟩ := h
    rfl
  obtain ⟨a, b, m, rfl, a0, a1, b0, b1, em, q⟩ := h
  refine ⟨_, PSs.nox (pss_cons (ps_expr (pe_call GN hr (by rfl) gN kN bN .nil pass0 (pa_cons (pe_lst (pa_cons (pv 0) (pa_cons (pv 1) pa_nil))) pa_nil)))
    (pss_one (ps_ret (pe_list2 rfl (by rfl) glist (by rfl) grange (pa_cons (pe_callB call_abs (by rfl) gabs (by decide +kernel) (pa_cons (pe_op op_sub (pv 0) (pv 1)) pa_nil)) (pa_cons (pe_op op_add (pe_callB (call_min2 rfl) (by rfl) gmin (by decide +kernel) (pa_cons (pe_op op_add (pv 0) (pv 1)) (pa_cons (pe_glob (v := .int 40) (by rfl) gH ⟨_, rfl⟩) pa_nil))) pe_int) (pa_cons pe_int pa_nil))))))), ?_⟩
  refine ⟨_, rfl, _, rfl, by show 2 ≤ sizeLine; decide, fun l0 hl0 => ?_⟩
  have s1 := same_upd (o := .lst [V.int a, V.int b]) hl0
  refine ⟨l0, [a, b], rfl, upd_same, fun n hn => by
    simp only [List.mem_cons, List.not_mem_nil, or_false] at hn
    omega, ?_⟩
  have eD : (if a - b < 0 then -(a - b) else a - b) = a + b - 2 * m := by
    rw [em]
    split <;> split <;> omega
  have mb : 0 ≤ m ∧ m ≤ 12 ∧ m ≤ a ∧ m ≤ b := by
    rw [em]
    split <;> omega
  refine ⟨_, rfl, _, rfl, a, b, rfl, rfl, a - b, rfl, _, rfl, _, rfl, a, b, rfl, rfl, a + b, 40, rfl, _, 1, rfl, rfl, ?_⟩
  have eM : (if (40 : Int) < a + b then (40 : Int) else a + b) = a + b := if_neg (by omega)
  rw [eM]
  refine ⟨_, a + b + 1, m.toNat + 1, rfl, by omega, by omega, by omega, by omega, size2 (by omega) (by omega), fun l hl => ?_⟩
  exact q l _ (s1.trans (same_upd hl)) (s1.free hl) upd_same
/-! ### joined -/
def spJoined (C : Addr) : Sp := spJoinedN C
abbrev nJoined : List Str := ["one", "other", "to"]
end
end TC
namespace TCX
open PySem PySem.Spec PyProof.Rows L2
/-! dicts whose keys are tuples of tuples -/
mutual
/-- the value v is the key k: a whole number, a text, or a tracked tuple of such -/
inductive NKey (H : Hp) : NestedKey → V → Prop
  | int (i : Int) : NKey H (.num i) (.int i)
  | str (x : Str) : NKey H (.text x) (.str x)
  | tup {b : Addr} {vs : List V} {ks : List NestedKey} : H b = some (.tup vs) → NKeys H ks vs → NKey H (.tup ks) (.ref b)
inductive NKeys (H : Hp) : List NestedKey → List V → Prop
  | nil : NKeys H [] []
  | cons {k : NestedKey} {v : V} {ks : List NestedKey} {vs : List V} : NKey H k v → NKeys H ks vs → NKeys H (k :: ks) (v :: vs)
end
mutual
theorem NKey.keeps {H H' : Hp} (ht : ∀ b xs, H b = some (.tup xs) → H' b = some (.tup xs)) : ∀ {k : NestedKey} {v : V}, NKey H k v → NKey H' k v
  | .num _, _, h => by cases h; exact .int _
  | .text _, _, h => by cases h; exact .str _
  | .none, _, h => by cases h
  | .tup ks, _, h => by
    cases h with
    | tup h1 h2 => exact .tup (ht _ _ h1) (NKeys.keeps ht h2)
theorem NKeys.keeps {H H' : Hp} (ht : ∀ b xs, H b = some (.tup xs) → H' b = some (.tup xs)) : ∀ {ks : List NestedKey} {vs : List V}, NKeys H ks vs → NKeys H' ks vs
  | [], _, h => by cases h; exact .nil
  | k :: ks, _, h => by
    cases h with
    | cons h1 h2 => exact .cons (NKey.keeps ht h1) (NKeys.keeps ht h2)
end
mutual
theorem NKey.is {P : Program} {w : World} {H : Hp} {h : Heap} (ok : HOk P w H h) : ∀ {k : NestedKey} {v : V} {u : Value}, NKey H k v → RelV v u → NestedIs h k u
  | .num i, _, u, hk, r => by
    cases hk
    obtain ⟨t, e⟩ := (show ∃ t, u = Value.int i t from r)
    subst e
    exact .int _ _
  | .text x, _, u, hk, r => by
    cases hk
    obtain ⟨t, e⟩ := (show ∃ t, u = Value.str x t from r)
    subst e
    exact .text _ _
  | .none, _, _, hk, _ => by cases hk
  | .tup ks, _, u, hk, r => by
    cases hk with
    | @tup b vs _ h1 h2 =>
      obtain rfl : u = Value.ref b := r
      obtain ⟨_, its, rr, o, g1, g2, n, g3⟩ := (show ObjOk P w H h b (.tup vs) from ok b _ h1)
      exact .tup g1 g2 g3 (by simpa using NKeys.is ok h2 rr)
theorem NKeys.is {P : Program} {w : World} {H : Hp} {h : Heap} (ok : HOk P w H h) : ∀ {ks : List NestedKey} {vs : List V} {us : List Value}, NKeys H ks vs → Vals vs us → NestedAll h ks us
  | [], _, _, hk, r => by
    cases hk
    cases r
    exact .nil
  | k :: ks, _, _, hk, r => by
    cases hk with
    | cons h1 h2 =>
      cases r with
      | cons r1 r2 => exact .cons (NKey.is ok h1 r1) (NKeys.is ok h2 r2)
end
section
variable (P : Program) (w : World)
/-- a dict object with these entries -/
def NdO (a : Addr) (xs : List (NestedKey × Addr × Value)) : HO := .ext fun h => ∃ o es ep, h.get? a = some o ∧ o.ExactDict ∧ o.data = .dict es ep ∧ es.toList = xs.map (entryOfKey (nestedKind P w)) ∧ (xs.map (·.1)).Nodup
abbrev KN (H : Hp) : List (NestedKey × V) → List (NestedKey × Addr × Value) → Prop := Paired fun p q => p.1 = q.1 ∧ (NKey H q.1 (.ref q.2.1) ∧ q.1.depth ≤ 8) ∧ RelV p.2 q.2.2
/-- at d stands a dict of these pairs -/
def NDictAt (H : Hp) (d : Addr) (kvs : List (NestedKey × V)) : Prop := ∃ xs, H d = some (NdO P w d xs) ∧ KN H kvs xs ∧ kvs.length ≤ sizeLine ∧ (d == sysModules) = false
end
section
variable {P : Program} {w : World}
theorem KN.val {H : Hp} {kvs : List (NestedKey × V)} {xs : List (NestedKey × Addr × Value)} (r : KN H kvs xs) (k : NestedKey) : RelO (valV kvs k) ((atKey xs k).map (·.2)) := by
  induction r with
  | nil => exact True.intro
  | @cons p q ps qs h t ih =>
    obtain ⟨h1, _, h2⟩ := h
    by_cases e : p.1 = k
    · have e' : q.1 = k := h1.symm.trans e
      have b : atKey (q :: qs) k = some q.2 := by simp [atKey, List.find?_cons, e']
      rw [valV_pos e, b]; exact h2
    · have e' : ¬ q.1 = k := fun z => e (h1.trans z)
      have b : atKey (q :: qs) k = atKey qs k := by simp [atKey, List.find?_cons, e']
      rw [valV_neg e, b]; exact ih
theorem KN.repl {H : Hp} {kvs : List (NestedKey × V)} {xs : List (NestedKey × Addr × Value)} (r : KN H kvs xs) (k : NestedKey) {y : V} {u : Value} (ry : RelV y u) :
    KN H (kvs.map fun kv => if kv.1 = k then (kv.1, y) else kv) (xs.map (putAt k u)) := by
  induction r with
  | nil => exact .nil
  | @cons p q ps qs h t ih =>
    rw [List.map_cons, List.map_cons]
    refine .cons ?_ ih
    obtain ⟨h1, h2, h3⟩ := h
    unfold putAt
    by_cases e : p.1 = k
    · rw [if_pos e, if_pos (h1.symm.trans e)]; exact ⟨h1, h2, ry⟩
    · rw [if_neg e, if_neg (fun z => e (h1.trans z))]; exact ⟨h1, h2, h3⟩
theorem KN.put {H : Hp} {kvs : List (NestedKey × V)} {xs : List (NestedKey × Addr × Value)} (r : KN H kvs xs) (k : NestedKey) {b : Addr} {y : V} {u : Value} (hb : NKey H k (.ref b)) (hd : k.depth ≤ 8) (ry : RelV y u) :
    KN H (putK kvs k y) (storedH xs k b u) := by
  have e : (kvs.any fun kv => decide (kv.1 = k)) = (atKey xs k).isSome := by
    rw [valV_any, (r.val k).isSome_eq, Option.isSome_map]
  unfold putK storedH
  rw [e]
  by_cases q : (atKey xs k).isSome = true
  · rw [if_pos q, if_pos q]; exact r.repl k ry
  · rw [if_neg q, if_neg q]; exact Paired.snoc r ⟨rfl, ⟨hb, hd⟩, ry⟩
theorem KN.keeps {H H' : Hp} {kvs : List (NestedKey × V)} {xs : List (NestedKey × Addr × Value)} (r : KN H kvs xs) (ht : ∀ b ys, H b = some (.tup ys) → H' b = some (.tup ys)) : KN H' kvs xs :=
  Paired.mapP r fun _ _ z => ⟨z.1, ⟨z.2.1.1.keeps ht, z.2.1.2⟩, z.2.2⟩
theorem NDictAt.keeps {H H' : Hp} {d : Addr} {kvs : List (NestedKey × V)} (h : NDictAt P w H d kvs) (hd : ∀ o, H d = some o → H' d = some o) (ht : ∀ b ys, H b = some (.tup ys) → H' b = some (.tup ys)) : NDictAt P w H' d kvs := by
  obtain ⟨xs, h1, h2, h3, h4⟩ := h
  exact ⟨xs, hd _ h1, KN.keeps h2 ht, h3, h4⟩
theorem nd_of {H : Hp} {h : Heap} {d : Addr} {kvs : List (NestedKey × V)} (ok : HOk P w H h) (e : NDictAt P w H d kvs) : ∃ xs, H d = some (NdO P w d xs) ∧ KN H kvs xs ∧ h.DictOfH (nestedKind P w) d xs ∧ kvs.length ≤ sizeLine ∧ (d == sysModules) = false := by
  obtain ⟨xs, h1, h2, h3, h4⟩ := e
  obtain ⟨⟨o, es, ep, g1, g2, g3, g4, g5⟩, _⟩ := (show ObjOk P w H h d (NdO P w d xs) from ok d _ h1)
  refine ⟨xs, h1, h2, ⟨o, es, ep, g1, g2, g3, g4, fun x hx => ?_, g5⟩, h3, h4⟩
  have all : ∀ {l : List (NestedKey × V)} {m : List (NestedKey × Addr × Value)}, KN H l m → ∀ x ∈ m, (nestedKind P w).is h x.1 x.2.1 := by
    intro l m q
    induction q with
    | nil => intro x hx; exact nomatch hx
    | @cons p q ps qs hq t ih =>
      intro x hx
      rcases List.mem_cons.mp hx with e | hx
      · subst e
        exact ⟨NKey.is ok hq.2.1.1 rfl, hq.2.1.2⟩
      · exact ih x hx
  exact all h2 x hx
/-- what the dict at a holds at the key y -/
def DGetN (P : Program) (w : World) (H : Hp) (a : Addr) (y : V) (r : Option V) : Prop := ∃ kvs k b, NDictAt P w H a kvs ∧ y = .ref b ∧ NKey H k (.ref b) ∧ k.depth ≤ 8 ∧ r = valV kvs k
end
section
variable {X : Cx} {pins : List (Addr × Obj)} {σ : L2.St} {H : Hp} {s : Shared} {a : Addr} {y v : V} {u r : Value} {o : Option V} {A : Around} {E : Value → Shared → Prop}
theorem nroom (hu : A.units + 64 < cLine) : (nestedKind X.prog X.w).room A.in1 := by
  show A.units + 1 + 8 < cLine
  omega
theorem n_getItem {Q : Value → Shared → Prop} (hu : A.units + 64 < cLine) (I : Inv X pins σ H s) (g : DGetN X.prog X.w H a y (some v)) (ry : RelV y u) (h : ∀ w' s', Inv X pins σ H s' → RelV v w' → Q w' s') :
    wpAny (model X.prog X.w) A (getItem (.ref a) u) Q E s := by
  obtain ⟨kvs, k, b, e, ey, hk, h8, l⟩ := g
  subst ey
  cases (show u = Value.ref b from ry)
  obtain ⟨xs, _, rel, dd, z, hd⟩ := nd_of I.hok e
  obtain ⟨w', hw, rw'⟩ := RelO.some_of (v := v) (o := (atKey xs k).map (·.2)) (by rw [l]; exact KN.val rel k)
  obtain ⟨p, hp, hp2⟩ := Option.map_eq_some_iff.mp hw
  refine wpAny_getItem_heap (knd := nestedKind X.prog X.w) (nroom hu) ⟨NKey.is I.hok hk rfl, h8⟩ dd hp ?_
  rw [hp2]
  exact h w' _ (I.tok _) rw'
theorem n_in {Q : Value → Shared → Prop} (hu : A.units + 64 < cLine) (I : Inv X pins σ H s) (g : DGetN X.prog X.w H a y o) (ry : RelV y u) (h : ∀ s', Inv X pins σ H s' → Q (.bool o.isSome) s') :
    wpAny (model X.prog X.w) A (compareOp .In u (.ref a)) Q E s := by
  obtain ⟨kvs, k, b, e, ey, hk, h8, l⟩ := g
  subst ey
  cases (show u = Value.ref b from ry)
  obtain ⟨xs, _, rel, dd, z, hd⟩ := nd_of I.hok e
  refine wpAny_in_heap (knd := nestedKind X.prog X.w) (nroom hu) ⟨NKey.is I.hok hk rfl, h8⟩ hd dd ?_
  have q := (KN.val rel k).isSome_eq
  rw [Option.isSome_map] at q
  rw [← q, ← l]
  exact h _ (I.tok _)
theorem n_notIn {Q : Value → Shared → Prop} (hu : A.units + 64 < cLine) (I : Inv X pins σ H s) (g : DGetN X.prog X.w H a y o) (ry : RelV y u) (h : ∀ s', Inv X pins σ H s' → Q (.bool (!o.isSome)) s') :
    wpAny (model X.prog X.w) A (compareOp .NotIn u (.ref a)) Q E s := by
  obtain ⟨kvs, k, b, e, ey, hk, h8, l⟩ := g
  subst ey
  cases (show u = Value.ref b from ry)
  obtain ⟨xs, _, rel, dd, z, hd⟩ := nd_of I.hok e
  refine wpAny_notIn_heap (knd := nestedKind X.prog X.w) (nroom hu) ⟨NKey.is I.hok hk rfl, h8⟩ hd dd ?_
  have q := (KN.val rel k).isSome_eq
  rw [Option.isSome_map] at q
  rw [← q, ← l]
  exact h _ (I.tok _)
/-- a[y] = v: the heap behind it -/
def DPutN (P : Program) (w : World) (H : Hp) (a : Addr) (y v : V) (Q : Hp → Prop) : Prop := ∃ kvs k b, NDictAt P w H a kvs ∧ y = .ref b ∧ NKey H k (.ref b) ∧ k.depth ≤ 8 ∧ kvs.length < sizeLine ∧
  ∀ H', (∀ c, c ≠ a → H' c = H c) → NDictAt P w H' a (putK kvs k v) → Q H'
theorem nd_ok {P : Program} {w : World} {H' : Hp} {h' : Heap} {xs : List (NestedKey × Addr × Value)} (dd : h'.DictOfH (nestedKind P w) a xs) : ObjOk P w H' h' a (NdO P w a xs) := by
  obtain ⟨q, es, ep, hq, h2, h3, h4, _, h5⟩ := dd
  refine ⟨⟨q, es, ep, hq, h2, h3, h4, h5⟩, ⟨q, hq⟩, fun h1 h2' p k => ?_⟩
  obtain ⟨q, es, ep, hq, h2, h3, h4, h5⟩ := p
  exact ⟨q, es, ep, k _ hq, h2, h3, h4, h5⟩
theorem n_setItem {R : Hp → Prop} {Q : Unit → Shared → Prop} (hu : A.units + 64 < cLine) (I : Inv X pins σ H s) (g : DPutN X.prog X.w H a y v R) (ry : RelV y u) (rv : RelV v r) (h : ∀ H' s', Inv X pins σ H' s' → R H' → Q () s') :
    wpAny (model X.prog X.w) A (setItem (.ref a) u r) Q E s := by
  obtain ⟨kvs, k, b, e, ey, hk, h8, l, q⟩ := g
  subst ey
  cases (show u = Value.ref b from ry)
  obtain ⟨xs, hx, rel, dd, z, hd⟩ := nd_of I.hok e
  have hz : xs.length ≤ sizeLine := by rw [← Paired.length rel]; exact z
  have hl : (putK kvs k v).length ≤ sizeLine := by have := length_putK kvs k v; omega
  refine wpAny_setItem_heap (knd := nestedKind X.prog X.w) (hsz := hz) (nroom hu) ⟨NKey.is I.hok hk rfl, h8⟩ dd fun h' dd' hs => ?_
  have he : ∃ q, h'.get? a = some q := let ⟨q, _, _, hq, _⟩ := dd'; ⟨q, hq⟩
  have nt : ∀ c ys, H c = some (.tup ys) → c ≠ a := fun c ys ec => ne_of ec hx (fun z => nomatch z)
  have I' := d_write (t' := s.toks) (ob := NdO X.prog X.w a (storedH xs k b r)) I (by rw [hx]; exact True.intro) hs he (nd_ok dd')
  refine h _ _ (I'.tok _) (q _ (fun c hc => upd_ne hc) ⟨storedH xs k b r, upd_same, (KN.put rel k hk h8 rv).keeps fun c ys ec => ?_, hl, hd⟩)
  rw [upd_ne (nt c ys ec)]
  exact ec
end
/-! ### rules -/
/-- {} of such keys -/
def tDNewN (P : Program) (w : World) : TE := fun _ H Q => ∀ p H', H p = none → (∀ c, c ≠ p → H' c = H c) → NDictAt P w H' p [] → Q (.ref p) H'
def tDGetN (P : Program) (w : World) (td ty : TE) : TE := fun σ H Q => td σ H fun x H1 => ty σ H1 fun y H2 => ∃ a v, x = .ref a ∧ DGetN P w H2 a y (some v) ∧ Q v H2
def tDInN (P : Program) (w : World) (ty td : TE) : TE := fun σ H Q => ty σ H fun y H1 => td σ H1 fun x H2 => ∃ a o, x = .ref a ∧ DGetN P w H2 a y o ∧ Q (.bl o.isSome) H2
def tDNotInN (P : Program) (w : World) (ty td : TE) : TE := fun σ H Q => ty σ H fun y H1 => td σ H1 fun x H2 => ∃ a o, x = .ref a ∧ DGetN P w H2 a y o ∧ Q (.bl (!o.isSome)) H2
def sDPutN (P : Program) (w : World) (td ty tv : TE) : TS := fun D σ H => tv σ H fun v H1 => td σ H1 fun x H2 => ty σ H2 fun y H3 => ∃ a, x = .ref a ∧ DPutN P w H3 a y v fun H4 => D.nx σ H4
section
variable {X : Cx} {o i e value : Expr} {pos pos' tpos : Pos} {td ty tv : TE}
theorem pe_dnewN : PE X (.Dict [] [] pos) (tDNewN X.prog X.w) := ⟨fun pins s σ H Q I h => by
  have hn := I.hok.fresh (Nat.le_refl s.heap.objs.size)
  have nd : (s.heap.objs.size == sysModules) = false := beq_eq_false_iff_ne.mpr (Ne.symm (Nat.ne_of_lt I.big))
  refine wpAny_Dict_empty ⟨.ref s.heap.objs.size, _, I.laid (a := s.heap.objs.size) (o := NdO X.prog X.w s.heap.objs.size []) (t' := s.toks) (fun _ _ q => Heap.get?_push_of_some _ q) (Nat.le_refl _) ?_, rfl, h _ _ hn (fun c hc => upd_ne hc) ⟨[], upd_same, .nil, Nat.zero_le _, nd⟩⟩
  exact ⟨⟨_, #[], 0, Heap.get?_push_size _ rfl, ⟨rfl, rfl, rfl⟩, rfl, rfl, List.nodup_nil⟩, ⟨_, Heap.get?_push_size _ rfl⟩, fun h1 h2' p k => by
    obtain ⟨q, es, ep, hq, h2, h3, h4, h5⟩ := p
    exact ⟨q, es, ep, k _ hq, h2, h3, h4, h5⟩⟩⟩
theorem ndict_typeIs {pins : List (Addr × Obj)} {σ : L2.St} {H : Hp} {s : Shared} {a : Addr} {y : V} {o : Option V} (I : Inv X pins σ H s) (g : DGetN X.prog X.w H a y o) : s.TypeIs (.ref a) "dict" := by
  obtain ⟨kvs, k, b, e, _⟩ := g
  obtain ⟨xs, _, _, dd, _⟩ := nd_of I.hok e
  exact dd.typeIs
theorem pe_dgetN (hu : X.A.units + 64 < cLine) (ho : PE X o td) (hi : PE X i ty) (hs : NoSl i) : PE X (.Subscript o i pos) (tDGetN X.prog X.w td ty) := by
  refine ⟨fun pins s σ H Q I h => ?_⟩
  refine subD_of PySem.F.slot_dict_getitem.lookup hs (thn (ho.run pins s σ H _ I h) fun u s1 ⟨x, H1, I1, rx, q1⟩ => thn (hi.run pins s1 σ H1 _ I1 q1) fun iv s2 ⟨y, H2, I2, ry, a, v, ex, g, q2⟩ => ?_)
  subst ex
  obtain rfl : u = Value.ref a := rx
  exact ⟨ndict_typeIs I2 g, n_getItem hu I2 g ry fun w' s3 I3 rw' => ⟨v, H2, I3, rw', q2⟩⟩
theorem pc_dinN (hu : X.A.units + 64 < cLine) (hi : PE X i ty) (ho : PE X o td) : PC X .In i o (tDInN X.prog X.w ty td) := by
  refine ⟨fun pins s σ H Q I h => ?_⟩
  refine thn (hi.run pins s σ H _ I h) fun iv s1 ⟨y, H1, I1, ry, q1⟩ => thn (ho.run pins s1 σ H1 _ I1 q1) fun u s2 ⟨x, H2, I2, rx, a, ov, ex, g, q2⟩ => ?_
  subst ex
  obtain rfl : u = Value.ref a := rx
  exact n_in hu I2 g ry fun s3 I3 => ⟨.bl ov.isSome, H2, I3, rfl, q2⟩
theorem pc_dnotinN (hu : X.A.units + 64 < cLine) (hi : PE X i ty) (ho : PE X o td) : PC X .NotIn i o (tDNotInN X.prog X.w ty td) := by
  refine ⟨fun pins s σ H Q I h => ?_⟩
  refine thn (hi.run pins s σ H _ I h) fun iv s1 ⟨y, H1, I1, ry, q1⟩ => thn (ho.run pins s1 σ H1 _ I1 q1) fun u s2 ⟨x, H2, I2, rx, a, ov, ex, g, q2⟩ => ?_
  subst ex
  obtain rfl : u = Value.ref a := rx
  exact n_notIn hu I2 g ry fun s3 I3 => ⟨.bl (!ov.isSome), H2, I3, rfl, q2⟩
theorem ps_dputN (hu : X.A.units + 64 < cLine) (ho : PE X o td) (hi : PE X i ty) (hv : PE X value tv) (hs : swapsWith value (some (.Subscript o i pos')) pos.line X.env = pure false) :
    PS X (.Assign [.Subscript o i pos'] value pos) (sDPutN X.prog X.w td ty tv) := by
  refine ⟨fun pins s σ H D I h => ?_⟩
  refine wpAny_Assign_Subscript (thn (hv.run pins s σ H _ I h) fun r s1 ⟨v, H1, I1, rv, q1⟩ => thn (ho.run pins s1 σ H1 _ I1 q1) fun u s2 ⟨x, H2, I2, rx, q2⟩ => thn (hi.run pins s2 σ H2 _ I2 q2) fun iv s3 ⟨y, H3, I3, ry, a, ex, g⟩ => ?_) hs
  subst ex
  obtain rfl : u = Value.ref a := rx
  exact n_setItem hu I3 g ry rv fun H4 s4 I4 q4 => ⟨σ, H4, I4, q4⟩
end
end TCX
/-! Dicts whose keys are tuples: their items walked, comprehensions that make such dicts. -/
namespace TCX
open PySem PySem.Spec PyProof.Rows L2
section
variable {X : Cx} {pins : List (Addr × Obj)} {σ : L2.St} {H : Hp} {s : Shared} {d : Addr} {o : Obj}
/-- the entries of a locked dict of tuple keys, with their values -/
theorem frzTV {kvs : List (List Key × V)} (I : Inv X pins σ H s) (h : H d = some (.frz o (.dT kvs))) :
    (d == sysModules) = false ∧ ∃ (es : Array DictEntry) (ep : Nat), o.data = .dict es ep ∧ s.heap.DictRaw d es ep ∧ es.size = kvs.length ∧
      ∀ (i : Nat) (k : List Key) (v : V), kvs[i]? = some (k, v) → ∃ (hi : i < es.size) (q : Addr), es[i].key = .ref q ∧ H q = some (.tup (k.map kV)) ∧ RelV v es[i].val := by
  have hok := I.hok d _ h
  obtain ⟨g0, z, hs, xs, pr, o', es, ep, ho, hx, hdt, he, _⟩ := hok
  rw [g0] at ho
  cases ho
  have sz : es.size = kvs.length := by
    have l1 : es.size = xs.length := size_of_entries he
    have l2 : kvs.length = xs.length := Paired.length pr
    omega
  refine ⟨hs, es, ep, hdt, ⟨o, g0, hx, hdt⟩, sz, fun i k v e => ?_⟩
  obtain ⟨b, hb, e1, e2, e3⟩ := paired_get pr e
  have q := entry_at he i
  rw [hb] at q
  obtain ⟨hi, q2⟩ := Array.getElem?_eq_some_iff.mp q
  exact ⟨hi, b.2.1, by rw [q2] <;> rfl, e2, by rw [q2]; exact e3⟩
end
/-- for (k, v) of a locked dict of tuple keys: each time a new pair of the key's own tuple and its value -/
def Itit (d : Addr) (o : Obj) (kvs : List (List Key × V)) : It where
  go := fun i H => H d = some (.frz o (.dT kvs)) ∧ i < kvs.length
  yld := fun i H x H' => ∃ (T : Addr) (k : List Key) (v : V) (q : Addr), kvs[i]? = some (k, v) ∧ x = .ref T ∧ H T = none ∧ H q = some (.tup (k.map kV)) ∧ H' = upd H T (.tup [.ref q, v])
  stop := fun i H => H d = some (.frz o (.dT kvs)) ∧ kvs.length ≤ i
theorem turn_itemsT {P : Program} {w : World} {K : PySem.W.Frag} {d : Addr} {o : Obj} {kvs : List (List Key × V)} {elts : List Expr} {kk : Nat} {tpos : Pos} {ep : Nat} {es : Array DictEntry} (J : Addr) (dat : o.data = .dict es ep) (sz : es.size = kvs.length) :
    Turn P w K (.Tuple elts kk tpos) (Itit d o kvs) [J] J (fun i h => ∃ u1 u2, IsItemIter h J d i es.size ep u1 u2) := by
  have same : ∀ {es' : Array DictEntry} {ep' : Nat}, o.data = .dict es' ep' → es' = es ∧ ep' = ep := fun z => by
    rw [dat] at z
    cases z
    exact ⟨rfl, rfl⟩
  refine ⟨by simp, fun i h st b hb => ?_, fun i h h' st k => ?_, ?_, ?_, fun A i s Q E st h => ?_⟩
  · obtain rfl : b = J := by simpa using hb
    obtain ⟨u1, u2, e⟩ := st
    exact ⟨_, e, fun v z => nomatch z⟩
  · obtain ⟨u1, u2, e⟩ := st
    exact ⟨u1, u2, k J (by simp) _ e⟩
  · intro X h1 h2 h3 calm i pins s σ H E I fp st go
    subst h1 h2 h3
    obtain ⟨hd, hi⟩ := go
    obtain ⟨ns, es2, ep2, dat2, raw, _, ent⟩ := frzTV I hd
    obtain ⟨rfl, rfl⟩ := same dat2
    obtain ⟨⟨k, v⟩, hkv⟩ : ∃ p, kvs[i]? = some p := ⟨kvs[i], List.getElem?_eq_getElem hi⟩
    obtain ⟨hi2, q, ek, eq, ev⟩ := ent i k v hkv
    obtain ⟨u1, u2, hit⟩ := st
    have lt : J < s.heap.objs.size := Heap.lt_size hit
    refine wpAny_pyNext_items_item_raw hit raw hi2 fun g1 out new1 _ kp => ⟨_, rfl, wpAny_letOwnedTupleGo_items (s := { s with heap := g1 }) out fun g2 hit2 sb => ?_⟩
    have new2 := (sb.2 _ (Nat.ne_of_gt lt)).trans new1
    have ok2 : ObjOk X.prog X.w (upd H s.heap.objs.size (.tup [.ref q, v])) g2 s.heap.objs.size (.tup [.ref q, v]) :=
      ⟨by show 2 ≤ sizeLine; decide, [es2[i].key, es2[i].val], .cons ek (.cons ev .nil), ⟨_, new2, rfl, _, rfl⟩⟩
    have I2 := I.turnedNew (t' := s.toks) (ch := [J]) (fun b ob hb e => (sb.2 b (by simpa using hb)).trans (kp b ob (by simpa using hb) e)) fp (Nat.le_refl _) ok2
    refine ⟨.ref s.heap.objs.size, _, I2, rfl, ⟨_, k, v, q, hkv, rfl, I.hok.fresh (Nat.le_refl _), eq, rfl⟩, ⟨_, _, hit2⟩, fun b hb => ?_⟩
    obtain rfl : b = J := by simpa using hb
    rw [upd_ne (Nat.ne_of_lt lt)]
    exact (fp b (by simp)).1
  · intro X h1 h2 h3 calm i pins s σ H E I fp st stop
    subst h1 h2 h3
    obtain ⟨hd, hi⟩ := stop
    obtain ⟨f0, f1, f2, f3, f4, f5⟩ := fp J (by simp)
    obtain ⟨ns, es2, ep2, dat2, raw, _, ent⟩ := frzTV I hd
    obtain ⟨rfl, rfl⟩ := same dat2
    obtain ⟨u1, u2, hit⟩ := st
    exact wpAny_pyNext_items_end_raw (I.ok.hd calm) hit raw (by omega) fun g eb => ⟨rfl, I.turned (t' := s.toks) (fun b ob hb e => eb b ob hb e) f0 f1 f3 f4 f5⟩
  · obtain ⟨_, _, e⟩ := st
    exact PySem.W.kcp_self e h
/-- d.items() of a locked dict of tuple keys -/
def iItemsT (td : TE) : TI := fun σ H R => td σ H fun x H1 => ∃ d o kvs, x = .ref d ∧ H1 d = some (.frz o (.dT kvs)) ∧ R (Itit d o kvs) H1
theorem pi_itemsT {X : Cx} {e : Expr} {td : TE} {apos cpos : Pos} {elts : List Expr} {kk : Nat} {tpos : Pos} (he : PE X e td) (hb : attributeBase e "items" X.env (eval e X.env) = eval e X.env := by rfl) (hl : (apos.endLine == cpos.line) = true := by rfl) :
    PI X (.Tuple elts kk tpos) (.Call (.Attribute e "items" apos) [] [] cpos) (iItemsT td) := by
  refine ⟨fun pins s σ H R I h => wpAny_Call_method (T := "dict") (id := "dict.items") hb rfl hl F.plainAttrs_dict F.slot_dict_items F.type_dict_items (thn (he.run pins s σ H _ I h) fun u s1 z => ?_)⟩
  obtain ⟨x, H1, I1, rx, d, o, kvs, ex, hd, q⟩ := z
  subst ex
  obtain rfl : u = Value.ref d := rx
  obtain ⟨ns, es, ep, dat, raw, sz, _⟩ := frzTV I1 hd
  obtain ⟨ob, ho, hx, hdat⟩ := id raw
  refine ⟨⟨ob, ho, hx.1⟩, fun ob' ho' => ?_, ?_⟩
  · cases ho'
    exact ⟨ob, ho, hx.2.1⟩
  have I2 : Inv X pins σ H1 { s1 with heap := s1.heap.push { cls := .type "dict_items", data := .fields #[.ref d] } } := I1.kept (t' := s1.toks) fun b ob q => Heap.get?_push_of_some _ q
  have raw2 : (s1.heap.push { cls := .type "dict_items", data := .fields #[.ref d] }).DictRaw d es ep := ⟨ob, Heap.get?_push_of_some _ ho, hx, hdat⟩
  have fin : wpAny (model X.prog X.w) X.A (pyIter (.ref s1.heap.objs.size)) (PIE X pins σ (.Tuple elts kk tpos) R) X.xe { s1 with heap := s1.heap.push { cls := .type "dict_items", data := .fields #[.ref d] } } :=
    wpAny_pyIter_items_raw (d := d) ⟨_, Heap.get?_push_size _ rfl, rfl, rfl⟩ raw2 (pi_one (tk := s1.toks) I2 _ (turn_itemsT _ dat sz) ⟨.none, .none, Heap.get?_push_size _ rfl⟩ q)
  exact method_meetsIn F.slot_dict_items F.entry_dict_items rfl (PySem.evalArgs_none ⟨rfl, ⟨ob, ho, hx.1⟩, F.args_dict_items_1 _, _, meets_dict_items_raw d ns, ⟨es, ep, raw⟩, fin⟩)
end TCX
/-! Dict comprehensions whose keys are tuples. -/
namespace TCX
open PySem PySem.Spec PyProof.Rows L2
/-- how a new dict starts, and what a store into it does -/
structure Puts (P : Program) (w : World) (A : Around) (o0 : HO) (put : Addr → V → V → Hp → (Hp → Prop) → Prop) : Prop where
  new : ∀ (h : Heap) (H : Hp), sysModules < h.objs.size → ObjOk P w H (h.push { cls := .type "dict", data := .dict #[] }) h.objs.size o0
  set : ∀ (Y : Cx), Y.prog = P → Y.w = w → ∀ {pins : List (Addr × Obj)} {σ : L2.St} {H : Hp} {s : Shared} {D : Addr} {y z : V} {u r : Value} {R : Hp → Prop} {Q : Unit → Shared → Prop} {E : Value → Shared → Prop}, Inv Y pins σ H s → RelV y u → RelV z r → put D y z H R →
    (∀ H' s', Inv Y pins σ H' s' → R H' → Q () s') → wpAny (model P w) A (dictSet D u r) Q E s
/-- {k: v for target in iter if ..}: D the new dict -/
def tDcG (o0 : HO) (put : Addr → V → V → Hp → (Hp → Prop) → Prop) (wi : TI) (g : TG) (tt : TT) (tk tv : TE) (vs : List Nat) : TE := fun σ H Q => wi σ H fun J H1 => ∀ D, H1 D = none → ∃ W : Nat → Nat → Hp → Prop, (∃ m, W 0 m (upd H1 D o0)) ∧ ∀ i m H, W i m H →
  (J.stop i H ∧ Q (.ref D) H) ∨ (J.go i H ∧ ∃ Nx : Hp → Prop, (∀ H', Nx H' → ∃ m', m' < m ∧ W (i + 1) m' H') ∧ ∀ x H', J.yld i H x H' →
    g x (wipe σ vs) H' fun σ2 H2 => wipe σ2 vs = wipe σ vs ∧ tt σ2 H2 fun b H3 => if b = true then tk σ2 H3 fun y H4 => tv σ2 H4 fun z H5 => put D y z H5 Nx else Nx H3)
section
variable {X : Cx} {o0 : HO} {put : Addr → V → V → Hp → (Hp → Prop) → Prop} {kx vx tg iter : Expr} {ifs : List Expr} {scope : Scope} {own : List (Str × Nat)} {wi : TI} {g : TG} {tt : TT} {tk tv : TE}
theorem pe_dcG {pos : Pos} (B : Puts X.prog X.w X.A o0 put) (calm : X.calm = true) (nd : X.N.Nodup) (hi : PI X tg iter wi) (ok : BlkOk X.N X.env.scope scope own)
    (hg : ∀ (z : Shared) (G : Hp) (C : Addr) (cl : List (Str × Addr)) (fp : List Addr), PG (X.blk z G scope (compEnvC scope cl C X.env) fp) tg g)
    (ht : ∀ (z : Shared) (G : Hp) (C : Addr) (cl : List (Str × Addr)) (fp : List Addr), PTs (X.blk z G scope (compEnvC scope cl C X.env) fp) ifs tt)
    (hk : ∀ (z : Shared) (G : Hp) (C : Addr) (cl : List (Str × Addr)) (fp : List Addr), PE (X.blk z G scope (compEnvC scope cl C X.env) fp) kx tk)
    (hv : ∀ (z : Shared) (G : Hp) (C : Addr) (cl : List (Str × Addr)) (fp : List Addr), PE (X.blk z G scope (compEnvC scope cl C X.env) fp) vx tv)
    (hs : ∀ x, foldedSetIterable iter X.env x = pure x := by intro _; rfl) :
    PE X (.DictComp kx vx [⟨tg, iter, ifs, 0⟩] scope pos) (tDcG o0 put wi g tt tk tv (own.map (·.2))) := by
  refine ⟨fun pins s σ H Q I h => ?_⟩
  rw [arm_eval_DictComp]
  have cells : ∀ y ∈ scope.names, y.2 = .free → ∃ c, X.env.cells.lookup y.1 = some c := fun y hy e => (ok.free y hy e).elim (fun k => I.ok.has _ (.inl k)) fun k => I.ok.has _ (.inr k)
  refine wpAny_comprehension_free rfl hs (closure_ok cells) ok.kind (fun y hy e => by rw [ok.uniq y hy, e]) (thn (hi.run pins s σ H _ I h) fun xv z1 hx => thn hx fun itv z2 h2 => ?_)
  obtain ⟨it, fp, tn, J, H2, e, I2, T, st2, f2, q⟩ := h2
  subst e
  refine wpAny_newObj_type (newEnv_comp ?_)
  have Dn : H2 z2.heap.objs.size = none := I2.hok.fresh (Nat.le_refl _)
  obtain ⟨W, ⟨m0, w0⟩, turn⟩ := q _ Dn
  have I3 : Inv X pins σ (upd H2 z2.heap.objs.size o0) { z2 with heap := z2.heap.push { cls := .type "dict", data := .dict #[] } } := I2.laid (t' := z2.toks) (fun b o e => Heap.get?_push_of_some _ e) (Nat.le_refl _) (B.new z2.heap _ I2.big)
  have small : ∀ b ∈ fp, b < z2.heap.objs.size := fun b hb => let ⟨o, e, _⟩ := T.obj _ _ st2 b hb; Heap.lt_size e
  generalize eD : z2.heap.objs.size = D at *
  generalize eG : upd H2 D o0 = G at *
  generalize e3 : ({ z2 with heap := z2.heap.push { cls := .type "dict", data := .dict #[] } } : Shared) = z3 at *
  have h3 : z3.heap = z2.heap.push { cls := .type "dict", data := .dict #[] } := by rw [← e3]
  have f3 : ∀ b ∈ fp, FpOk X pins G b ∧ b < z3.heap.objs.size := fun b hb => by
    refine ⟨⟨?_, (f2 b hb).2⟩, by rw [h3, Heap.size_push, eD]; exact Nat.lt_succ_of_lt (small b hb)⟩
    rw [← eG, upd_ne (Nat.ne_of_lt (small b hb))]
    exact (f2 b hb).1
  have st3 : tn 0 z3.heap := T.keep _ _ _ st2 fun b _ o e => by rw [h3]; exact Heap.get?_push_of_some _ e
  have I4 := block_start I3 ok nd f3
  have pg := hg z3 G z3.heap.objs.size (cellsFrom (z3.heap.objs.size + 1) scope.names (cloFrom X.env.cells scope.names [])) fp
  have pt := ht z3 G z3.heap.objs.size (cellsFrom (z3.heap.objs.size + 1) scope.names (cloFrom X.env.cells scope.names [])) fp
  have pk := hk z3 G z3.heap.objs.size (cellsFrom (z3.heap.objs.size + 1) scope.names (cloFrom X.env.cells scope.names [])) fp
  have pv := hv z3 G z3.heap.objs.size (cellsFrom (z3.heap.objs.size + 1) scope.names (cloFrom X.env.cells scope.names [])) fp
  show codeAny _ _ (.compStart (.DictComp kx vx [⟨tg, iter, ifs, 0⟩] scope pos) 0 (.ref it) (.ref D) (compEnvC scope (cellsFrom (z3.heap.objs.size + 1) scope.names (cloFrom X.env.cells scope.names [])) z3.heap.objs.size X.env)) (compPost (model X.prog X.w) X.A X.xe none (EP X pins σ Q) (.ref D) z3.heap.objs.size) { z3 with heap := pushCells (z3.heap.push { cls := .type "dict", data := .dict #[] }) scope.names }
  have clear : ∀ b ∈ fp, G b = none := fun b hb => (f3 b hb).1.1
  generalize eE : compEnvC scope (cellsFrom (z3.heap.objs.size + 1) scope.names (cloFrom X.env.cells scope.names [])) z3.heap.objs.size X.env = ce at I4 pg pt pk pv ⊢
  have locE : ce.locals = z3.heap.objs.size := by rw [← eE] <;> rfl
  generalize e4 : ({ z3 with heap := pushCells (z3.heap.push { cls := .type "dict", data := .dict #[] }) scope.names } : Shared) = z4 at I4 ⊢
  have st4 : tn 0 z4.heap := T.keep _ _ _ st3 fun b _ o e => by rw [← e4]; exact pushCells_keeps _ _ _ _ (Heap.get?_push_of_some _ e)
  have still : ∀ {ρ : L2.St} {M : Hp} {y : Shared}, Inv (X.blk z3 G scope ce fp) [] ρ M y → (∀ b ∈ fp, M b = none) → ∀ b ∈ fp, FpOk (X.blk z3 G scope ce fp) [] M b := fun I' hn b hb =>
    ⟨hn b hb, (I'.ok.exf b hb).1, I'.ok.exfs b hb, .inl hb, fun x c e => (I'.ok.exf b hb).2 x c e, fun p hp => absurd (show p ∈ ([] : List (Addr × Obj)) ++ [] from hp) (by simp)⟩
  have loop : codeAny (model X.prog X.w) X.A (.compLoop (.DictComp kx vx [⟨tg, iter, ifs, 0⟩] scope pos) 0 (.ref it) (.ref D) ce) (compPost (model X.prog X.w) X.A X.xe none (EP X pins σ Q) (.ref D) z3.heap.objs.size) z4 := by
    refine compLoop_anyD (fun n y => ∃ i M, Inv (X.blk z3 G scope ce fp) [] (wipe σ (own.map (·.2))) M y ∧ tn i y.heap ∧ (∀ b ∈ fp, M b = none) ∧ W i n M) (fun n y5 hy => ?_) m0 ⟨0, G, I4, st4, clear, w0⟩
    obtain ⟨i, M5, I5, st5, n5, w5⟩ := hy
    rcases turn i n M5 w5 with ⟨stop, qq⟩ | ⟨go, Nx, hNx, step⟩
    · refine thnF (T.done (X.blk z3 G scope ce fp) rfl rfl rfl calm i [] y5 _ M5 (fun _ _ => False) I5 (still I5 n5) st5 stop) fun r y6 ⟨er, I6⟩ => ?_
      subst er
      have I7 : Inv X pins σ M5 y6 := I3.call' (ch := fp) I6.os I6.base I6.hok I6.bare fun b hb => let F := (f3 b hb).1.2; ⟨F.2.2.1, F.1, F.2.2.2.1, F.2.2.2.2⟩
      have freeC : M5 z3.heap.objs.size = none := by
        have z : M5 ce.locals = none := I6.free
        rw [locE] at z
        exact z
      obtain ⟨m, hn, _⟩ := I6.loc
      have hn2 : y6.heap.Ns ce.locals m := hn
      rw [locE] at hn2
      refine ⟨m, hn2, fun g' sb => ?_⟩
      obtain ⟨f0, f1, f2', f3', f4, f5⟩ := I3.fpOk (Nat.le_refl _) freeC
      exact ⟨.ref D, M5, I7.turned (t' := y6.toks) (fun b o hb e => (sb.2 b hb).trans e) f0 f1 f3' f4 f5, rfl, qq⟩
    · refine thnF (T.item (X.blk z3 G scope ce fp) rfl rfl rfl calm i [] y5 _ M5 (fun _ _ => False) I5 (still I5 n5) st5 go) fun r y6 ⟨u, er, h6⟩ => ?_
      subst er
      refine thnF h6 fun _ y7 ⟨x, M7, I7, r7, yl, st7, n7⟩ => ?_
      refine thnF (pg.run _ y7 _ M7 x u _ (I7.pinned (still I7 n7) (T.obj _ _ st7)) r7 (step x M7 yl)) fun _ y8 ⟨ρ, M8, I8, hw, q8⟩ => ?_
      refine thnF (pt.run _ y8 ρ M8 _ I8 q8) fun b y9 ⟨M9, I9, q9⟩ => ?_
      have fin : ∀ {y : Shared} {M : Hp}, Inv (X.blk z3 G scope ce fp) ([] ++ pinsAt fp y7.heap) ρ M y → Nx M → ∃ m, m < n ∧ ∃ i M, Inv (X.blk z3 G scope ce fp) [] (wipe σ (own.map (·.2))) M y ∧ tn i y.heap ∧ (∀ b ∈ fp, M b = none) ∧ W i m M := fun {y M} I' nx => by
        obtain ⟨m', hm, w'⟩ := hNx M nx
        have keep : ∀ b ∈ fp, ∀ o, y7.heap.get? b = some o → y.heap.get? b = some o ∧ M b = none := fun b hb o e => by
          have z := I'.pin (b, o) (List.mem_append_right _ (List.mem_append_right _ (mem_pinsAt hb e)))
          exact ⟨z.1, z.2.1⟩
        have len : (wipe σ (own.map (·.2))).length = ρ.length := by rw [← hw, wipe_length]
        refine ⟨m', hm, i + 1, M, (I'.unpinned (pins := [])).weak len (fun j v e => ?_), T.keep _ _ _ st7 fun b hb o e => (keep b hb o e).1, fun b hb => ?_, w'⟩
        · rw [← hw] at e
          exact (wipe_some e).1
        · obtain ⟨o, e, _⟩ := T.obj _ _ st7 b hb
          exact (keep b hb o e).2
      cases b with
      | false =>
        simp only [Bool.false_eq_true, if_false] at q9 ⊢
        exact fin I9 q9
      | true =>
        simp only [if_true] at q9 ⊢
        exact thnF (pk.run _ y9 ρ M9 _ I9 q9) fun z y10 ⟨yk, M10, I10, r10, q10⟩ => thnF (pv.run _ y10 ρ M10 _ I10 q10) fun z2 y11 ⟨yv, M11, I11, r11, pz⟩ =>
          B.set (X.blk z3 G scope ce fp) rfl rfl I11 r10 r11 pz fun M12 y12 I12 nx => fin I12 nx
  exact codeAny_compStart_dict loop (T.self X.A 0 _ _ _ st4 loop)
end
/-! ### tuple keys -/
/-- a store into a dict whose keys are tuples of ints and texts -/
def putT (D : Addr) (y z : V) (H : Hp) (R : Hp → Prop) : Prop := ∃ (kvs : List (List Key × V)) (k : List Key) (b : Addr), y = .ref b ∧ H D = some (.dT kvs) ∧ H b = some (.tup (k.map kV)) ∧ kvs.length < sizeLine ∧ R (upd H D (.dT (putK kvs k z)))
theorem puts_T {P : Program} {w : World} {A : Around} (hu : A.units + 1 < cLine) : Puts P w A (.dT []) putT where
  new := fun h H hb => dt_empty h hb
  set := fun Y e1 e2 {pins σ H s D y z u r R Q E} I ry rz hp h => by
    subst e1 e2
    obtain ⟨kvs, k, b, ey, hD, hb, hl, q⟩ := hp
    subst ey
    cases (show u = Value.ref b from ry)
    obtain ⟨sz, ns, xs, rel, dd⟩ := dt_of I.hok hD
    have sx : xs.length ≤ sizeLine := by rw [← Paired.length rel]; exact sz
    have sp : (putK kvs k z).length ≤ sizeLine := by have := length_putK kvs k z; omega
    refine wpAny_dictSet_heap (hsz := sx) (show A.units < cLine by omega) (key_of I.hok hb) dd fun h' dd' hs => h _ _ ?_ q
    obtain ⟨o, es, ep, ho, d2, d3, d4, _, d5⟩ := dd'
    refine d_write I (by rw [hD]; exact True.intro) hs ⟨o, ho⟩ ⟨sp, ns, _, (rel.put k hb rz).keeps fun c ys ec => ?_, o, es, ep, ho, d2, d3, d4, d5⟩
    rw [upd_ne (ne_of ec hD (fun v => nomatch v))]
    exact ec
theorem walk_itemsT {d : Addr} {o : Obj} {kvs : List (List Key × V)} : Walk (Itit d o kvs) kvs.length (fun H => H d = some (.frz o (.dT kvs)))
    (fun i H x H' => ∃ (T : Addr) (k : List Key) (v : V) (q : Addr), kvs[i]? = some (k, v) ∧ x = .ref T ∧ H T = none ∧ H q = some (.tup (k.map kV)) ∧ H' = upd H T (.tup [.ref q, v])) :=
  ⟨fun _ _ hi q => ⟨q, hi⟩, fun _ q => ⟨q, Nat.le_refl _⟩, fun _ _ _ _ _ _ y => y⟩
section
variable {J : It} {n : Nat} {G : Hp → Prop} {Y : Nat → Hp → V → Hp → Prop} {o0 : HO} {put : Addr → V → V → Hp → (Hp → Prop) → Prop}
/-- the reading of such a comprehension over a walk -/
theorem dcg_it (w : Walk J n G Y) {g : TG} {tt : TT} {tk tv : TE} {vs : List Nat} {σ : L2.St} {H1 : Hp} {D : Addr} {Qd : Hp → Prop} (Pv : Nat → Hp → Prop) (h0 : Pv 0 (upd H1 D o0)) (hG : ∀ i H, i ≤ n → Pv i H → G H)
    (hs : ∀ i x H H', i < n → Pv i H → Y i H x H' → g x (wipe σ vs) H' fun σ2 H2 => wipe σ2 vs = wipe σ vs ∧ tt σ2 H2 fun b H3 =>
      if b = true then tk σ2 H3 fun y H4 => tv σ2 H4 fun z H5 => put D y z H5 (Pv (i + 1)) else Pv (i + 1) H3) (hd : ∀ H, Pv n H → Qd H) :
    ∃ W : Nat → Nat → Hp → Prop, (∃ m, W 0 m (upd H1 D o0)) ∧ ∀ i m H, W i m H →
      (J.stop i H ∧ Qd H) ∨ (J.go i H ∧ ∃ Nx : Hp → Prop, (∀ H', Nx H' → ∃ m', m' < m ∧ W (i + 1) m' H') ∧ ∀ x H', J.yld i H x H' → g x (wipe σ vs) H' fun σ2 H2 => wipe σ2 vs = wipe σ vs ∧ tt σ2 H2 fun b H3 =>
        if b = true then tk σ2 H3 fun y H4 => tv σ2 H4 fun z H5 => put D y z H5 Nx else Nx H3) := by
  refine ⟨fun i m H => i ≤ n ∧ m = n - i ∧ Pv i H, ⟨n, Nat.zero_le _, rfl, h0⟩, fun i m H h => ?_⟩
  obtain ⟨hi, rfl, p⟩ := h
  have q := hG i H hi p
  rcases Nat.lt_or_ge i n with hlt | hge
  · exact .inr ⟨w.goes i H hlt q, Pv (i + 1), fun H' p' => ⟨n - (i + 1), by omega, hlt, rfl, p'⟩, fun x H' y => hs i x H H' hlt p (w.yields i H x H' hlt q y)⟩
  · obtain rfl : i = n := by omega
    exact .inl ⟨w.stops H q, hd H p⟩
end
end TCX
/-! Dicts with keys of any kind that is told as tuples of ints: contents as a list of keys and a function. -/
namespace TCX
open PySem PySem.Spec PyProof.Rows L2
section
variable {κ : Type} [DecidableEq κ]
/-- the keys in their order, one more behind if it is new -/
def addK (ks : List κ) (r : κ) : List κ := if r ∈ ks then ks else ks ++ [r]
theorem addK_len (ks : List κ) (r : κ) : (addK ks r).length ≤ ks.length + 1 := by
  unfold addK
  split
  · exact Nat.le_succ _
  · rw [List.length_append, List.length_singleton]
    exact Nat.le_refl _
theorem mem_addK {ks : List κ} {r s : κ} : s ∈ addK ks r ↔ s ∈ ks ∨ s = r := by
  unfold addK
  split
  · rename_i h
    exact ⟨.inl, fun z => z.elim id fun e => e ▸ h⟩
  · simp
theorem nd_addK {ks : List κ} {r : κ} (h : ks.Nodup) : (addK ks r).Nodup := by
  unfold addK
  split
  · exact h
  · rename_i z
    rw [List.nodup_append]
    refine ⟨h, by simp, fun a ha b hb => ?_⟩
    rw [List.mem_singleton.mp hb]
    exact fun e => z (e ▸ ha)
def setVal (f : κ → V) (r : κ) (v : V) : κ → V := fun s => if s = r then v else f s
/-- the entries -/
def entT (kk : κ → List Key) (ks : List κ) (f : κ → V) : List (List Key × V) := ks.map fun k => (kk k, f k)
theorem entT_len (kk : κ → List Key) (ks : List κ) (f : κ → V) : (entT kk ks f).length = ks.length := List.length_map _
theorem entT_congr {kk : κ → List Key} {ks : List κ} {f g : κ → V} (h : ∀ k ∈ ks, f k = g k) : entT kk ks f = entT kk ks g := List.map_congr_left fun k hk => by rw [h k hk]
variable {kk : κ → List Key} (inj : ∀ a b, kk a = kk b → a = b)
include inj
theorem val_entT {f : κ → V} {r : κ} : ∀ {ks : List κ}, valV (entT kk ks f) (kk r) = if r ∈ ks then some (f r) else none
  | [] => rfl
  | a :: ks => by
    show valV ((kk a, f a) :: entT kk ks f) (kk r) = _
    by_cases e : a = r
    · rw [valV_pos (by rw [e]), e, if_pos (List.mem_cons_self)]
    · rw [valV_neg fun z => e (inj _ _ z), val_entT]
      have : (r ∈ a :: ks) ↔ r ∈ ks := ⟨fun z => (List.mem_cons.mp z).resolve_left fun y => e y.symm, List.mem_cons_of_mem _⟩
      by_cases h : r ∈ ks
      · rw [if_pos h, if_pos (this.mpr h)]
      · rw [if_neg h, if_neg (fun z => h (this.mp z))]
theorem put_entT {ks : List κ} {f : κ → V} {r : κ} {v : V} : putK (entT kk ks f) (kk r) v = entT kk (addK ks r) (setVal f r v) := by
  unfold putK addK
  have hany : ((entT kk ks f).any fun kv => decide (kv.1 = kk r)) = decide (r ∈ ks) := by
    rw [valV_any, val_entT inj]
    by_cases h : r ∈ ks
    · rw [if_pos h, decide_eq_true h]
      rfl
    · rw [if_neg h, decide_eq_false h]
      rfl
  rw [hany]
  by_cases h : r ∈ ks
  · rw [if_pos (decide_eq_true h), if_pos h]
    unfold entT
    rw [List.map_map]
    refine List.map_congr_left fun k _ => ?_
    show (if kk k = kk r then (kk k, v) else (kk k, f k)) = (kk k, setVal f r v k)
    unfold setVal
    by_cases e : k = r
    · rw [if_pos (by rw [e]), if_pos e]
    · rw [if_neg fun z => e (inj _ _ z), if_neg e]
  · rw [if_neg (by rw [decide_eq_false h]; exact Bool.false_ne_true), if_neg h]
    unfold entT
    rw [List.map_append]
    congr 1
    · refine List.map_congr_left fun k hk => ?_
      show (kk k, f k) = (kk k, if k = r then v else f k)
      rw [if_neg fun (e : k = r) => h (e ▸ hk)]
    · show [(kk r, v)] = [(kk r, if r = r then v else f r)]
      rw [if_pos rfl]
theorem nd_entT {ks : List κ} {f : κ → V} (h : ks.Nodup) : ((entT kk ks f).map (·.1)).Nodup := by
  unfold entT
  rw [List.map_map]
  exact List.pairwise_map.mpr (h.imp fun {a b} z e => z (inj _ _ e))
theorem dget_entT {H : Hp} {d b : Addr} {ks : List κ} {f : κ → V} {r : κ} (e : H d = some (.dT (entT kk ks f))) (eb : H b = some (.tup ((kk r).map kV))) : DGet H d (.ref b) (if r ∈ ks then some (f r) else none) := by
  have z := DGet.t (k := kk r) e eb
  rw [val_entT inj] at z
  exact z
theorem dget_entT_in {H : Hp} {d b : Addr} {ks : List κ} {f : κ → V} {r : κ} (e : H d = some (.dT (entT kk ks f))) (eb : H b = some (.tup ((kk r).map kV))) (h : r ∈ ks) : DGet H d (.ref b) (some (f r)) := by
  have z := dget_entT inj e eb
  rw [if_pos h] at z
  exact z
theorem dget_entT_out {H : Hp} {d b : Addr} {ks : List κ} {f : κ → V} {r : κ} (e : H d = some (.dT (entT kk ks f))) (eb : H b = some (.tup ((kk r).map kV))) (h : r ∉ ks) : DGet H d (.ref b) none := by
  have z := dget_entT inj e eb
  rw [if_neg h] at z
  exact z
theorem dput_entT {H : Hp} {d b : Addr} {ks : List κ} {f : κ → V} {r : κ} {v : V} (e : H d = some (.dT (entT kk ks f))) (eb : H b = some (.tup ((kk r).map kV))) (hl : ks.length < sizeLine) : DPut H d (.ref b) v (upd H d (.dT (entT kk (addK ks r) (setVal f r v)))) := by
  have z := DPut.t (k := kk r) (v := v) e eb (by rw [entT_len]; exact hl)
  rw [put_entT inj] at z
  exact z
omit inj
theorem entT_get {ks : List κ} {f : κ → V} {i : Nat} {k : List Key} {v : V} (h : (entT kk ks f)[i]? = some (k, v)) : ∃ r, ks[i]? = some r ∧ k = kk r ∧ v = f r := by
  unfold entT at h
  rw [List.getElem?_map] at h
  cases e : ks[i]? with
  | none =>
    rw [e] at h
    cases h
  | some r =>
    rw [e] at h
    have z := Option.some.inj h
    exact ⟨r, rfl, (congrArg Prod.fst z).symm, (congrArg Prod.snd z).symm⟩
end
/-! ### counts in such a dict -/
section
variable {κ : Type} [DecidableEq κ]
/-- the keys of terms in the order in which they first come -/
def keysL (L : List (κ × Int)) : List κ := L.foldl (fun ks x => addK ks x.1) []
/-- what the terms at a key come to -/
def sumAt (L : List (κ × Int)) (r : κ) : Int := (L.map fun x => if x.1 = r then x.2 else 0).sum
theorem keysL_snoc (L : List (κ × Int)) (x : κ × Int) : keysL (L ++ [x]) = addK (keysL L) x.1 := by
  unfold keysL
  rw [List.foldl_append]
  rfl
theorem sumAt_snoc (L : List (κ × Int)) (x : κ × Int) (r : κ) : sumAt (L ++ [x]) r = sumAt L r + if x.1 = r then x.2 else 0 := by
  unfold sumAt
  rw [List.map_append, List.sum_append]
  show _ + (_ + 0) = _
  rw [Int.add_zero]
theorem sumAt_append (L M : List (κ × Int)) (r : κ) : sumAt (L ++ M) r = sumAt L r + sumAt M r := by
  unfold sumAt
  rw [List.map_append, List.sum_append]
theorem nd_foldK : ∀ (L : List (κ × Int)) {ks : List κ}, ks.Nodup → (L.foldl (fun ks x => addK ks x.1) ks).Nodup
  | [], _, h => h
  | x :: L, _, h => nd_foldK L (nd_addK h)
theorem nd_keysL (L : List (κ × Int)) : (keysL L).Nodup := nd_foldK L List.nodup_nil
theorem mem_foldK : ∀ (L : List (κ × Int)) {ks : List κ} {r : κ}, r ∈ L.foldl (fun ks x => addK ks x.1) ks ↔ r ∈ ks ∨ ∃ x ∈ L, x.1 = r
  | [], _, _ => by simp
  | x :: L, ks, r => by
    show r ∈ L.foldl _ (addK ks x.1) ↔ _
    rw [mem_foldK L, mem_addK]
    constructor
    · rintro ((h | h) | ⟨y, h1, h2⟩)
      · exact .inl h
      · exact .inr ⟨x, List.mem_cons_self, h.symm⟩
      · exact .inr ⟨y, List.mem_cons_of_mem _ h1, h2⟩
    · rintro (h | ⟨y, h1, h2⟩)
      · exact .inl (.inl h)
      · rcases List.mem_cons.mp h1 with e | h1
        · exact .inl (.inr (by rw [← h2, e]))
        · exact .inr ⟨y, h1, h2⟩
theorem mem_keysL {L : List (κ × Int)} {r : κ} : r ∈ keysL L ↔ ∃ x ∈ L, x.1 = r := by
  unfold keysL
  rw [mem_foldK]
  simp
theorem sumAt_out : ∀ {L : List (κ × Int)} {r : κ}, (∀ x ∈ L, x.1 ≠ r) → sumAt L r = 0
  | [], _, _ => rfl
  | x :: L, r, h => by
    have z := sumAt_out (L := L) (r := r) fun y hy => h y (List.mem_cons_of_mem _ hy)
    show (if x.1 = r then x.2 else 0) + sumAt L r = 0
    rw [if_neg (h x List.mem_cons_self), z]
    rfl
theorem sumAt_not {L : List (κ × Int)} {r : κ} (h : r ∉ keysL L) : sumAt L r = 0 := sumAt_out fun x hx e => h (mem_keysL.mpr ⟨x, hx, e⟩)
theorem keysL_len : ∀ (L : List (κ × Int)), (keysL L).length ≤ L.length := fun L => by
  have key : ∀ (M : List (κ × Int)) (ks : List κ), (M.foldl (fun ks x => addK ks x.1) ks).length ≤ ks.length + M.length := by
    intro M
    induction M with
    | nil => intro ks; exact Nat.le_refl _
    | cons x M ih =>
      intro ks
      have a := ih (addK ks x.1)
      have b := addK_len ks x.1
      show (M.foldl _ (addK ks x.1)).length ≤ ks.length + (M.length + 1)
      omega
  have z := key L []
  simpa [keysL] using z
/-- the dict of the terms so far -/
def cntO (kk : κ → List Key) (L : List (κ × Int)) : HO := .dT (entT kk (keysL L) fun k => .int (sumAt L k))
theorem cnt_step {kk : κ → List Key} (L : List (κ × Int)) (x : κ × Int) : HO.dT (entT kk (addK (keysL L) x.1) (setVal (fun k => .int (sumAt L k)) x.1 (.int (sumAt L x.1 + x.2)))) = cntO kk (L ++ [x]) := by
  unfold cntO
  rw [keysL_snoc]
  congr 1
  refine entT_congr fun k _ => ?_
  show (if k = x.1 then V.int (sumAt L x.1 + x.2) else .int (sumAt L k)) = .int (sumAt (L ++ [x]) k)
  rw [sumAt_snoc]
  by_cases e : k = x.1
  · rw [if_pos e, e, if_pos rfl]
  · rw [if_neg e, if_neg fun z => e z.symm, Int.add_zero]
/-- what .get(k, 0) tells -/
theorem cnt_get {L : List (κ × Int)} {r : κ} {f : κ → V} (hf : f = fun k => .int (sumAt L k)) : (if r ∈ keysL L then some (f r) else none).getD (.int 0) = .int (sumAt L r) := by
  subst hf
  by_cases h : r ∈ keysL L
  · rw [if_pos h]
    rfl
  · rw [if_neg h, sumAt_not h]
    rfl
end
end TCX
namespace TCX
open PySem PySem.Spec PyProof.Rows L2
section
variable {X : Cx} {pins : List (Addr × Obj)} {σ : L2.St} {H : Hp} {s : Shared}
/-- two dicts with the same keys, their values alike to the deep -/
theorem hits_deep {κ : Type} [DecidableEq κ] (I : Inv X pins σ H s) (hu : X.A.in1.units + 60 < cLine) {kvs : List (κ × V)} {vb : List (κ × Value)} (rb : KV kvs vb) {ks : List (κ × V)} {va : List (κ × Value)} (ra : KV ks va) :
    (∀ p ∈ ks, ∃ y d e, valV kvs p.1 = some y ∧ Dp X.K H p.2 d ∧ Dp X.K H y e ∧ d.canLay0 = true ∧ e.canLay0 = true ∧ d.depth ≤ 60 ∧ PyData.eqv d e = true) → PySem.W.KeqHits X.A.in1 s vb va true := by
  unfold KV at ra
  induction ra with
  | nil => intro _; exact .nil
  | @cons p q ps qs h t ih =>
    intro hp
    obtain ⟨h1, h2⟩ := h
    obtain ⟨y, d, e, ey, hd, he, cd, ce, dp, eq⟩ := hp p List.mem_cons_self
    have rr : RelO (some y) (valueAt vb p.1) := by rw [← ey]; exact rb.val p.1
    obtain ⟨u, hy, ry⟩ := rr.some_of
    obtain ⟨k, v⟩ := q
    have h1' : p.1 = k := h1
    rw [h1'] at hy
    obtain ⟨as, r1⟩ := Dp.reads I d p.2 v hd h2
    obtain ⟨bs, r2⟩ := Dp.reads I e y u he ry
    have z := SeqAt.eqAt_reads d e X.A.in1 s v u as bs r1 r2 cd ce (by
      have : min d.depth e.depth ≤ d.depth := Nat.min_le_left _ _
      omega)
    rw [eq] at z
    show PySem.W.KeqHits X.A.in1 s vb ((k, v) :: qs) (true && true)
    exact .hit hy z (ih fun p' hm => hp p' (List.mem_cons_of_mem _ hm))
def rEqDD (K : PySem.W.Frag) : R2 := fun x y H Q => ∃ a b ks ls, x = .ref a ∧ y = .ref b ∧ H a = some (.dK ks) ∧ H b = some (.dK ls) ∧ ks.length = ls.length ∧ (∀ p ∈ ks, ∃ y d e, valV ls p.1 = some y ∧ Dp K H p.2 d ∧ Dp K H y e ∧ d.canLay0 = true ∧ e.canLay0 = true ∧ d.depth ≤ 60 ∧ PyData.eqv d e = true) ∧ Q (.bl true) H
theorem op_eqDD (hu : X.A.units + 64 < cLine) : OpR X (compareOp .Eq) (rEqDD X.K) := by
  intro pins s σ H x y v u Q I rx ry h
  obtain ⟨a, b, ks, ls, rfl, rfl, ea, eb, hlen, hp, q⟩ := h
  obtain rfl : v = Value.ref a := rx
  obtain rfl : u = Value.ref b := ry
  obtain ⟨_, ya, va, ra, da⟩ := (show ObjOk X.prog X.w H s.heap a (.dK ks) from I.hok a _ ea)
  obtain ⟨_, yb, vb, rb, db⟩ := (show ObjOk X.prog X.w H s.heap b (.dK ls) from I.hok b _ eb)
  have hl : va.length = vb.length := by rw [← ra.length, ← rb.length]; exact hlen
  have hu1 : X.A.in1.units + 60 < cLine := by
    show X.A.units + 1 + 60 < cLine
    omega
  exact PySem.W.keq_eq (knd := mixKind X.prog X.w) (r := true) ya yb da db (by omega) (fun _ => hits_deep I hu1 rb ra hp) (fin_bl I q (by simp [hl]))
end
end TCX
/-! Dicts whose keys are tuples: == and != of two that hold the same, values() walked and summed, clear(). -/
namespace TCX
open PySem PySem.Spec PyProof.Rows L2 PySem.W
section
variable {prog : Program} {w : World} {K : Type} [DecidableEq K] {knd : HeapKind prog w K} {A : Around} {E : Value → Shared → Prop} {s : Shared}
theorem samePairsH {nm : String} {a b : Addr} {ka kb : List (K × Addr × Value)} {Q : Bool → Shared → Prop} (hu : knd.room A) (ha : (a == sysModules) = false) (hb : (b == sysModules) = false)
    (da : s.heap.DictOfH knd a ka) (db : s.heap.DictOfH knd b kb) (hl : ka.length = kb.length) (hits : ∀ x ∈ ka, ∃ p, atKey kb x.1 = some p ∧ SeqAt.EqAt A s x.2.2 p.2 true) (h : Q true s) :
    wpAny (model prog w) A (Builtin.Dict.samePairs nm a b) Q E s := by
  obtain ⟨oa, es, ep, hoa, _, hda, hea, hia, hna⟩ := da
  obtain ⟨ob, es', ep', hob, _, hdb, heb, hib, hnb⟩ := db
  have hla := size_of_entries hea
  have hlb := size_of_entries heb
  have hsz : es.size = es'.size := by omega
  unfold Builtin.Dict.samePairs Builtin.Dict.showsAll
  rw [if_neg (show ¬ (a == sysModules) = true by rw [ha]; exact Bool.false_ne_true), if_neg (show ¬ (b == sysModules) = true by rw [hb]; exact Bool.false_ne_true)]
  refine wpAny_bind (wpAny_pure (wpAny_bind (wpAny_pure ?_)))
  refine wpAny_bind (wpAny_dictEntries hoa hda ?_)
  dsimp only
  refine wpAny_bind (wpAny_dictEntries hob hdb ?_)
  rw [if_neg (by rw [hsz]; simp)]
  refine wpAny_bind (wpAny_dictEpoch hoa hda ?_)
  refine wpAny_bind ?_
  rw [Std.Legacy.Range.forIn_eq_forIn_range']
  simp only [Std.Legacy.Range.size, Nat.sub_zero, Nat.add_sub_cancel, Nat.div_one]
  refine wpAny_forIn_list _
    (fun rest q s' => s' = s ∧ q = (none, ()) ∧ ∃ i, rest = List.range' i (es.size - i) ∧ i ≤ es.size)
    _ ?_ ?_ _ _ ⟨rfl, rfl, 0, by simp, Nat.zero_le _⟩
  · rintro x rest q s' ⟨rfl, rfl, i, hr, hi⟩
    have hlt : i < es.size := by
      rcases Nat.lt_or_ge i es.size with h | h
      · exact h
      · rw [Nat.sub_eq_zero_of_le h] at hr; simp at hr
    obtain ⟨rfl, hrest⟩ : x = i ∧ rest = List.range' (i + 1) (es.size - (i + 1)) := by
      have e : es.size - i = (es.size - (i + 1)) + 1 := by omega
      rw [e, List.range'_succ] at hr
      injection hr with h1 h2
      exact ⟨h1, h2⟩
    refine wpAny_bind (wpAny_dictEntries hoa hda ?_)
    rw [Array.getElem?_eq_getElem hlt]
    have hlt' : x < ka.length := by rw [← hla]; exact hlt
    have ez : es[x] = entryOfKey knd ka[x] := by
      have q := entry_at hea x
      rw [Array.getElem?_eq_getElem hlt, List.getElem?_eq_getElem hlt'] at q
      exact Option.some.inj q
    have hm := List.getElem_mem hlt'
    obtain ⟨p, hp, heq⟩ := hits _ hm
    show wpAny _ _ (holding [es[x].key, es[x].val] _ >>= _) _ _ _
    rw [ez]
    generalize ka[x] = z at hm hp heq
    obtain ⟨k, az, v⟩ := z
    refine wpAny_bind (wpAny_holding (wpAny_bind (wpAny_dictFind_heap (knd := knd) (k := k) (a := az) hu (hia _ hm) hob hdb heb hib hnb ?_ ?_)))
    · intro hno
      rw [atKey_none_of_get hno] at hp
      cases hp
    · intro j p' hj
      rw [atKey_of_get hnb hj] at hp
      obtain rfl := Option.some.inj hp
      have ej := entry_at heb j
      rw [hj] at ej
      have hjlt : j < es'.size := (Array.getElem?_eq_some_iff.mp ej).1
      refine wpAny_bind (wpAny_dictEntries hob hdb ?_)
      rw [ej]
      refine wpAny_holding (heq prog w _ _ ?_)
      show wpAny _ _ (if (!true) = true then _ else _) _ _ _
      rw [if_neg (by decide)]
      refine wpAny_bind (wpAny_dictEpoch hoa hda ?_)
      rw [if_neg (by simp)]
      exact wpAny_pure ⟨rfl, rfl, x + 1, hrest, hlt⟩
  · rintro q s' ⟨rfl, rfl, i, hr, hi⟩
    exact wpAny_pure h
theorem neH {a b : Addr} {ka kb : List (K × Addr × Value)} {Q : Value → Shared → Prop} (hu : knd.room A.in1) (hu0 : A.units < cLine) (ha : (a == sysModules) = false) (hb : (b == sysModules) = false)
    (da : s.heap.DictOfH knd a ka) (db : s.heap.DictOfH knd b kb) (hl : ka.length = kb.length) (hits : ∀ x ∈ ka, ∃ p, atKey kb x.1 = some p ∧ SeqAt.EqAt A.in1 s x.2.2 p.2 true) (h : Q (.bool false) s) :
    wpAny (model prog w) A (compareOp .NotEq (.ref a) (.ref b)) Q E s := by
  refine wpAny_richCompare_same_room (op := .NotEq) da.typeIs db.typeIs PySem.F.slot_dict_ne (wpAny_call_entry PySem.F.slot_dict_ne da.typeIs PySem.F.entry_dict_ne ?_ (PySem.F.args_dict_ne_2 _ _)) hu0
  show wpAny _ _ (Builtin.Dict.dictSlotArgs "__ne__" ⟨[.ref a, .ref b], []⟩ >>= _) _ _ s
  refine wpAny_bind ?_
  unfold Builtin.Dict.dictSlotArgs
  refine wpAny_bind (wpAny_notOrdered_dict da.typeIs ?_)
  show wpAny _ _ (pure (Value.ref a, Value.ref b)) _ _ s
  refine wpAny_pure ?_
  refine wpAny_bind (wpAny_isInstance (T := "dict") db.typeIs PySem.F.sub_dict_dict ?_)
  simp only [Bool.not_true, Bool.false_eq_true, if_false]
  refine wpAny_bind (wpAny_pure (wpAny_bind (wpAny_pure ?_)))
  refine wpAny_bind (samePairsH hu ha hb da db hl hits ?_)
  refine wpAny_pure ⟨_, rfl, ?_, ?_⟩
  · exact fun x => nomatch x
  · simpa using h
end
section
variable {X : Cx}
/-- != of two dicts of tuple keys with flat values that hold the same -/
def rNeTT : R2 := fun x y H Q => ∃ a b ks ls, x = .ref a ∧ y = .ref b ∧ H a = some (.dT ks) ∧ H b = some (.dT ls) ∧ ks.length = ls.length ∧ (∀ p ∈ ks, valV ls p.1 = some p.2 ∧ flatB p.2 = true) ∧ Q (.bl false) H
theorem op_neTT (hu : X.A.units + 64 < cLine) : OpR X (compareOp .NotEq) rNeTT := by
  intro pins s σ H x y v u Q I rx ry h
  obtain ⟨a, b, ks, ls, rfl, rfl, ea, eb, hlen, hp, q⟩ := h
  obtain rfl : v = Value.ref a := rx
  obtain rfl : u = Value.ref b := ry
  obtain ⟨_, ya, va, ra, da⟩ := dt_of I.hok ea
  obtain ⟨_, yb, vb, rb, db⟩ := dt_of I.hok eb
  have l1 : ks.length = va.length := Paired.length ra
  have l2 : ls.length = vb.length := Paired.length rb
  refine neH (knd := tupleKind (mixKind X.prog X.w)) ?_ (by omega) ya yb da db (by omega) (fun z hz => ?_) (fin_bl I q rfl)
  · exact tupleKind_room_in1 (by omega)
  · obtain ⟨i, hi⟩ := List.getElem?_of_mem hz
    have lt : i < ks.length := by
      have := (List.getElem?_eq_some_iff.mp hi).1
      omega
    obtain ⟨z', hz', e1, e2, e3⟩ := paired_get ra (List.getElem?_eq_getElem lt)
    rw [hi] at hz'
    obtain rfl := Option.some.inj hz'
    obtain ⟨h1, h2⟩ := hp _ (List.getElem_mem lt)
    have rr := KT.val rb z.1
    rw [← e1, h1] at rr
    obtain ⟨y, hy, ry⟩ := rr.some_of
    rw [Option.map_eq_some_iff] at hy
    obtain ⟨p, hp1, hp2⟩ := hy
    refine ⟨p, by rw [← e1]; exact hp1, ?_⟩
    rw [hp2]
    exact eqAt_same e3 ry h2
end
/-! ### values() -/
/-- the values of a locked dict of tuple keys -/
def Itdt (d : Addr) (o : Obj) (kvs : List (List Key × V)) : It :=
  ⟨fun i H => H d = some (.frz o (.dT kvs)) ∧ i < kvs.length, fun i H x H' => H' = H ∧ ∃ k, kvs[i]? = some (k, x), fun i H => H d = some (.frz o (.dT kvs)) ∧ kvs.length ≤ i⟩
theorem turn_valsT {P : Program} {w : World} {K : PySem.W.Frag} {tg : Expr} {d : Addr} {o : Obj} {kvs : List (List Key × V)} {ep : Nat} {es : Array DictEntry} (J : Addr) (dat : o.data = .dict es ep) (sz : es.size = kvs.length) :
    Turn P w K tg (Itdt d o kvs) [J] J (fun i h => h.IsValIter J d i es.size ep) where
  mem := by simp
  obj := fun i h st b hb => by
    have e : b = J := by simpa using hb
    subst e
    obtain ⟨oi, e, c, dd⟩ := st
    exact ⟨oi, e, fun v z => by rw [dd] at z; cases z⟩
  keep := fun i h h' st k => st.at fun oi e => k J (by simp) oi e
  item := by
    intro X hP hw hK hc i pins s σ H E I hf st hg
    subst hP hw hK
    obtain ⟨hd, hi⟩ := hg
    obtain ⟨f0, f1, f2, f3, f4, f5⟩ := hf J (by simp)
    obtain ⟨ns, es2, ep2, dat2, raw, _, ent⟩ := frzTV I hd
    obtain ⟨rfl, rfl⟩ := dict_ep dat dat2
    obtain ⟨⟨k, v⟩, hkv⟩ : ∃ p, kvs[i]? = some p := ⟨kvs[i], List.getElem?_eq_getElem hi⟩
    obtain ⟨hi2, q, ek, eq, ev⟩ := ent i k v hkv
    refine wpAny_pyNext_values_item_raw st raw hi2 fun h' st' sb => ?_
    have I1 : Inv X pins σ H { s with heap := h' } := I.turned (t' := s.toks) (fun b ob hb e => (sb.2 b hb).trans e) f0 f1 f3 f4 f5
    obtain ⟨oi, e, c, dd⟩ := id st'
    exact ⟨_, rfl, go_of (s := { s with heap := h' }) e c dd (by decide) ⟨v, H, I1, ev, ⟨rfl, k, hkv⟩, st', fun b hb => (hf b hb).1⟩⟩
  done := by
    intro X hP hw hK hc i pins s σ H E I hf st hg
    subst hP hw hK
    obtain ⟨hd, hi⟩ := hg
    obtain ⟨f0, f1, f2, f3, f4, f5⟩ := hf J (by simp)
    obtain ⟨ns, es2, ep2, dat2, raw, _, ent⟩ := frzTV I hd
    obtain ⟨rfl, rfl⟩ := dict_ep dat dat2
    exact wpAny_pyNext_values_end_raw (I.ok.hd hc) st raw (by omega) fun g eb => ⟨rfl, I.turned (t' := s.toks) (fun b ob hb e => eb b ob hb e) f0 f1 f3 f4 f5⟩
  self := fun A i s Q E st h => wpAny_pyIter_valiter st h
def iValsT (td : TE) : TI := fun σ H R => td σ H fun x H1 => ∃ d o kvs, x = .ref d ∧ H1 d = some (.frz o (.dT kvs)) ∧ R (Itdt d o kvs) H1
section
variable {X : Cx} {tg e : Expr} {td : TE} {apos cpos : Pos}
theorem pi_valuesT (he : PE X e td) (hbase : attributeBase e "values" X.env (eval e X.env) = eval e X.env := by rfl) (hline : (apos.endLine == cpos.line) = true := by rfl) : PI X tg (.Call (.Attribute e "values" apos) [] [] cpos) (iValsT td) := by
  refine ⟨fun pins s σ H R I h => wpAny_Call_method (T := "dict") (id := "dict.values") hbase rfl hline F.plainAttrs_dict F.slot_dict_values F.type_dict_values (thn (he.run pins s σ H _ I h) fun u s1 z => ?_)⟩
  obtain ⟨x, H1, I1, rx, d, o, kvs, ex, hd, q⟩ := z
  subst ex
  obtain rfl : u = Value.ref d := rx
  obtain ⟨ns, es, ep, dat, raw, sz, _⟩ := frzTV I1 hd
  obtain ⟨ob, ho, hx, hdat⟩ := id raw
  refine ⟨⟨ob, ho, hx.1⟩, fun ob' ho' => ?_, ?_⟩
  · cases ho'
    exact ⟨ob, ho, hx.2.1⟩
  have I2 : Inv X pins σ H1 { s1 with heap := s1.heap.push { cls := .type "dict_values", data := .fields #[.ref d] } } := I1.kept (t' := s1.toks) fun b ob q => Heap.get?_push_of_some _ q
  have raw2 : (s1.heap.push { cls := .type "dict_values", data := .fields #[.ref d] }).DictRaw d es ep := ⟨ob, Heap.get?_push_of_some _ ho, hx, hdat⟩
  have fin : wpAny (model X.prog X.w) X.A (pyIter (.ref s1.heap.objs.size)) (PIE X pins σ tg R) X.xe { s1 with heap := s1.heap.push { cls := .type "dict_values", data := .fields #[.ref d] } } :=
    wpAny_pyIter_values_raw (d := d) ⟨_, Heap.get?_push_size _ rfl, rfl, rfl⟩ raw2 (pi_one (tk := s1.toks) I2 _ (turn_valsT _ dat sz) ⟨_, Heap.get?_push_size _ rfl, rfl, rfl⟩ q)
  exact method_meetsIn F.slot_dict_values F.entry_dict_values rfl (PySem.evalArgs_none ⟨rfl, ⟨ob, ho, hx.1⟩, F.args_dict_values_1 _, _, meets_dict_values_raw d ns, ⟨es, ep, raw⟩, fin⟩)
end
theorem walk_valuesT {d : Addr} {o : Obj} {kvs : List (List Key × V)} : Walk (Itdt d o kvs) kvs.length (fun H => H d = some (.frz o (.dT kvs))) (fun i H x H' => H' = H ∧ ∃ k, kvs[i]? = some (k, x)) :=
  ⟨fun _ _ hi q => ⟨q, hi⟩, fun _ q => ⟨q, Nat.le_refl _⟩, fun _ _ _ _ _ _ y => y⟩
/-! ### clear() -/
def rTClear : V → List V → Hp → VK → Prop := fun x vs H Q => ∃ (a : Addr) (kvs : List (List Key × V)), x = .ref a ∧ vs = [] ∧ H a = some (.dT kvs) ∧ Q .non (upd H a (.dT []))
theorem mtt_clear {X : Cx} : MtR X "dict.clear" rTClear := by
  intro pins s σ H x vs v us Q I rx rv h
  obtain ⟨a, kvs, ex, ev, e, q⟩ := h
  subst ex
  subst ev
  obtain rfl : v = Value.ref a := rx
  have hus := rv.zero
  subst hus
  obtain ⟨z, hd, xs, rel, dd⟩ := dt_of I.hok e
  obtain ⟨es, ep, raw, sz, _⟩ := Heap.DictOfH.raw dd
  have l1 : kvs.length = xs.length := Paired.length rel
  refine call_meetsIn PySem.F.slot_dict_clear dd.typeIs PySem.F.entry_dict_clear (PySem.F.args_dict_clear_1 _) (meets_dict_clear_raw a) ⟨es, ep, raw, by omega, fun h' dd' hs => ?_⟩
  obtain ⟨q', hq', hx', hdat'⟩ := dd'
  refine ⟨.non, _, d_write (t' := s.toks) (ob := .dT []) I (by rw [e]; exact True.intro) hs ⟨q', hq'⟩ ?_, rfl, q⟩
  exact ⟨Nat.zero_le _, hd, [], .nil, q', #[], ep + 1, hq', hx', hdat', rfl, List.nodup_nil⟩
section
variable {X : Cx} {o : Expr} {to : TE} {apos cpos : Pos}
theorem pe_tclear (ho : PE X o to) (hbase : attributeBase o "clear" X.env (eval o X.env) = eval o X.env := by rfl) (hline : (apos.endLine == cpos.line) = true := by rfl) : PE X (.Call (.Attribute o "clear" apos) [] [] cpos) (tBM0 X.K "dict" rTClear to) :=
  pe_bm0 PySem.F.plainAttrs_dict PySem.F.slot_dict_clear PySem.F.type_dict_clear mtt_clear ho hbase hline
end
/-! ### sum(d.values()) -/
theorem preSum_take (f : Nat → Int) (ns : List Int) (h : ∀ i, i < ns.length → f i = ns.getD i 0) : ∀ n, n ≤ ns.length → preSum f n = (ns.take n).sum
  | 0, _ => by simp [preSum]
  | n + 1, hn => by
    rw [preSum, preSum_take f ns h n (by omega), h n (by omega), List.take_add_one, List.sum_append, List.getElem?_eq_getElem (by omega), List.getD_eq_getElem?_getD, List.getElem?_eq_getElem (by omega)]
    simp
def viewT (p d : Addr) : HO := .ext fun h => h.get? p = some { cls := .type "dict_values", data := .fields #[.ref d] }
def tValsT (td : TE) : TE := fun σ H Q => td σ H fun x H1 => ∃ a kvs, x = .ref a ∧ H1 a = some (.dT kvs) ∧ ∀ p, H1 p = none → Q (.ref p) (upd H1 p (viewT p a))
theorem pe_valsT {X : Cx} {e : Expr} {td : TE} {apos cpos : Pos} (he : PE X e td) (hbase : attributeBase e "values" X.env (eval e X.env) = eval e X.env := by rfl) (hline : (apos.endLine == cpos.line) = true := by rfl) : PE X (.Call (.Attribute e "values" apos) [] [] cpos) (tValsT td) := by
  refine ⟨fun pins s σ H Q I h => wpAny_Call_method (T := "dict") (id := "dict.values") hbase rfl hline F.plainAttrs_dict F.slot_dict_values F.type_dict_values (thn (he.run pins s σ H _ I h) fun u s1 z => ?_)⟩
  obtain ⟨x, H1, I1, rx, d, kvs, ex, hd, q⟩ := z
  subst ex
  obtain rfl : u = Value.ref d := rx
  obtain ⟨_, ns, xs, rel, dd⟩ := dt_of I1.hok hd
  obtain ⟨es, ep, raw, _, _⟩ := Heap.DictOfH.raw dd
  obtain ⟨ob, ho, hx, hdat⟩ := id raw
  refine ⟨⟨ob, ho, hx.1⟩, fun ob' ho' => ?_, ?_⟩
  · cases ho'
    exact ⟨ob, ho, hx.2.1⟩
  have fin : EP X pins σ Q (.ref s1.heap.objs.size) { s1 with heap := s1.heap.push { cls := .type "dict_values", data := .fields #[.ref d] } } :=
    ⟨.ref s1.heap.objs.size, _, I1.laid (t' := s1.toks) (fun b o q => Heap.get?_push_of_some _ q) (Nat.le_refl _) (show ObjOk X.prog X.w _ _ _ (viewT s1.heap.objs.size d) from ⟨Heap.get?_push_size _ rfl, ⟨_, Heap.get?_push_size _ rfl⟩, fun h1 h2 q k => k _ q⟩), rfl, q _ (I1.hok.fresh (Nat.le_refl _))⟩
  exact method_meetsIn F.slot_dict_values F.entry_dict_values rfl (PySem.evalArgs_none ⟨rfl, ⟨ob, ho, hx.1⟩, F.args_dict_values_1 _, _, meets_dict_values_raw d ns, ⟨es, ep, raw⟩, fin⟩)
def rSumVT : List V → Hp → VK → Prop := fun xs H Q => ∃ (p a : Addr) (kvs : List (List Key × V)) (ns : List Int), xs = [.ref p] ∧ H p = some (viewT p a) ∧ H a = some (.dT kvs) ∧ kvs.map Prod.snd = ns.map V.int ∧ Q (.int ns.sum) H
theorem cr_sumVT {X : Cx} (hc : X.calm = true) : CallR X (.builtin "sum") rSumVT := by
  intro pins s σ H xs us Q I rx h
  obtain ⟨p, a, kvs, ns, rfl, hp, hd, hns, q⟩ := h
  rw [Vals.ref1 rx]
  have hv : s.heap.get? p = some { cls := .type "dict_values", data := .fields #[.ref a] } := (show ObjOk X.prog X.w H s.heap p (viewT p a) from I.hok p _ hp).1
  obtain ⟨_, sm, xs, rel, dd⟩ := dt_of I.hok hd
  obtain ⟨es, ep, raw, sz, ent⟩ := Heap.DictOfH.raw dd
  have l1 : kvs.length = xs.length := Paired.length rel
  have l2 : kvs.length = ns.length := by
    have e := congrArg List.length hns
    rw [List.length_map, List.length_map] at e
    exact e
  have lt := raw.lt_size
  refine call_sum_walkG (wpAny_pyIter_values_raw (d := a) ⟨_, hv, rfl, rfl⟩ raw ?_)
  refine ⟨s.heap.objs.size, _, _, _, _, _, fun i => ns.getD i 0, rfl, Walks.rawValues (A := X.A.in1) (show X.A.in1.handled = none from I.ok.hd hc) _ a (Nat.ne_of_lt lt) es ep, ⟨⟨_, Heap.get?_push_size _ rfl, rfl, rfl⟩, raw.push _⟩, fun b hb => ?_, fun i v hP => ?_, fun h' tk t' hk => ?_⟩
  · simp only [List.mem_cons, List.not_mem_nil, or_false] at hb
    rcases hb with rfl | rfl
    · show _ < (s.heap.push _).objs.size
      rw [size_push']
      exact Nat.lt_succ_self _
    · show _ < (s.heap.push _).objs.size
      rw [size_push']
      exact Nat.lt_succ_of_lt lt
  · obtain ⟨hi, rfl⟩ := hP
    have hi2 : i < kvs.length := by omega
    obtain ⟨y, hy, _, ev, _⟩ := ent i hi
    obtain ⟨y', hy', _, _, e3⟩ := paired_get rel (List.getElem?_eq_getElem hi2)
    rw [hy] at hy'
    obtain rfl := Option.some.inj hy'
    have e2 : kvs[i].2 = V.int (ns.getD i 0) := by
      have z : (kvs.map Prod.snd)[i]? = (ns.map V.int)[i]? := by rw [hns]
      rw [List.getElem?_map, List.getElem?_map, List.getElem?_eq_getElem hi2, List.getElem?_eq_getElem (by omega)] at z
      rw [List.getD_eq_getElem?_getD, List.getElem?_eq_getElem (by omega)]
      exact Option.some.inj z
    rw [e2] at e3
    obtain ⟨t, e4⟩ := (show ∃ t, y.2.2 = Value.int (ns.getD i 0) t from e3)
    exact ⟨t, ev.trans e4⟩
  · have e : preSum (fun i => ns.getD i 0) es.size = ns.sum := by
      rw [preSum_take _ ns (fun _ _ => rfl) _ (by omega), List.take_of_length_le (by omega)]
    rw [e]
    refine ⟨.int _, H, I.kept (t' := tk) fun b o hb => hk b o (fun hm => ?_) (Heap.get?_push_of_some _ hb), ⟨_, rfl⟩, q⟩
    simp only [List.mem_cons, List.not_mem_nil, or_false] at hm
    exact absurd (Heap.lt_size hb) (by rw [hm]; exact Nat.lt_irrefl _)
end TCX
/-! d.pop(k) of a dict with tuple keys. -/
namespace TCX
open PySem PySem.W PySem.Spec PyProof.Rows L2
section
variable {X : Cx}
def rPopT1 : V → List V → Hp → VK → Prop := fun x xs H Q => ∃ (a : Addr) (kvs : List (List L2.Key × V)) (k : List L2.Key) (b : Addr) (v : V), x = .ref a ∧ xs = [.ref b] ∧ H a = some (.dT kvs) ∧ H b = some (.tup (k.map kV)) ∧ valV kvs k = some v ∧ Q v (upd H a (.dT (dropK kvs k)))
theorem mt_popT1 (hu : X.A.units + 1 < cLine) : MtR X "dict.pop" rPopT1 := by
  intro pins s σ H x xs v us Q I rx rxs h
  obtain ⟨a, kvs, k, b, v0, rfl, rfl, ha, hb, ev, q1⟩ := h
  cases rx
  rw [Vals.ref1 rxs]
  obtain ⟨z, hd, xs', rel, dd⟩ := dt_of I.hok ha
  have hz : xs'.length ≤ sizeLine := by rw [← Paired.length rel]; exact z
  have r := rel.val k
  rw [ev] at r
  obtain ⟨y, hy, rv⟩ := r.some_of
  rw [Option.map_eq_some_iff] at hy
  obtain ⟨p, hp1, rfl⟩ := hy
  refine call_pop_heap (knd := tupleKind (mixKind X.prog X.w)) (k := k) (xs := xs') (p := p) (.inl rfl) (PySem.F.args_dict_pop_2 _ _) (tupleKind_room_in1 hu) (key_of I.hok hb) hd dd hp1 (fun h' dd' hs => ?_) hz
  obtain ⟨o, es, ep, hq, h2, h3, h4, _, h5⟩ := dd'
  have I2 := d_write (t' := s.toks + (tupleKind (mixKind X.prog X.w)).draws k) (ob := .dT (dropK kvs k)) I (by rw [ha]; exact True.intro) hs ⟨o, hq⟩ ⟨Nat.le_trans (dropK_le kvs k) z, hd, _, (L2.DX.KT_drop k rel).keeps (fun c ys ec => (by rw [upd_ne (ne_of ec ha (fun z => nomatch z))]; exact ec)), o, es, ep, hq, h2, h3, h4, h5⟩
  exact ⟨v0, _, I2, rv, q1⟩
end
end TCX
/-! {k: v}, one pair with a tuple as key. -/
namespace TCX
open PySem PySem.W PySem.Spec PyProof.Rows L2
section
variable {X : Cx}
def tDispT1 (tk tv : TE) : TE := fun σ H Q => ∀ p, H p = none → tk σ (upd H p (.dT [])) fun x H1 => tv σ H1 fun y H2 => ∃ b k, x = .ref b ∧ H2 b = some (.tup (k.map kV)) ∧ H2 p = some (.dT []) ∧ Q (.ref p) (upd H2 p (.dT [(k, y)]))
theorem pe_dispT1 {k v : Expr} {pos : Pos} {tk tv : TE} (hu : X.A.units + 1 < cLine) (hk : PE X k tk) (hv : PE X v tv) : PE X (.Dict [some k] [v] pos) (tDispT1 tk tv) := by
  refine ⟨fun pins s σ H Q I q => ?_⟩
  have hn := I.hok.fresh (Nat.le_refl s.heap.objs.size)
  have I1 := I.laid (a := s.heap.objs.size) (o := .dT []) (h' := s.heap.push { cls := .type "dict", data := .dict #[] }) (t' := s.toks) (fun _ _ q => Heap.get?_push_of_some _ q) (Nat.le_refl _) (dt_empty s.heap I.big)
  have room : (tupleKind (mixKind X.prog X.w)).room X.A := by
    show X.A.units < cLine
    omega
  rw [arm_eval_Dict, zip_pairTrees [some k] [v] X.env pos rfl rfl, dictDisplay_pairs _ (fun z => by cases z) (by show 1 < 17; decide)]
  refine wpAny_bind (wpAny_standAt (wpAny_bind (wpAny_subDictH (knd := tupleKind (mixKind X.prog X.w)) (Q := fun d s' => wpAny (model X.prog X.w) X.A (pure (Value.ref d)) (EP X pins σ Q) X.xe s') room (by show 1 ≤ 15; decide) ?_)))
  refine pairTrees_cons_walk (thn (hk.run pins _ σ _ _ I1 (q _ hn)) fun u s1 ⟨x, H1, I2, rx, q1⟩ => thn (hv.run pins s1 σ H1 _ I2 q1) fun w2 s2 ⟨y, H2, I3, ry, b, kk, ex, hb, hp, q2⟩ => pairTrees_nil_walk ?_)
  subst ex
  obtain rfl : u = Value.ref b := rx
  obtain ⟨z, hd, xs0, r0, dd⟩ := dt_of I3.hok hp
  cases r0
  refine ⟨[(kk, b, w2)], ⟨rfl, rfl, key_of I3.hok hb, trivial⟩, dd, fun h' tk dd' hs => wpAny_pure ?_⟩
  obtain ⟨o, es, ep, hq, h2, h3, h4, _, h5⟩ := dd'
  have I4 : Inv X pins σ (upd H2 s.heap.objs.size (.dT [(kk, y)])) { s2 with heap := h', toks := tk } :=
    d_write I3 (by rw [hp]; exact True.intro) hs ⟨o, hq⟩ ⟨by show 1 ≤ sizeLine; decide, hd, _, .cons (b := (kk, b, w2)) ⟨rfl, by rw [upd_ne (ne_of hb hp (fun z => nomatch z))]; exact hb, ry⟩ .nil, o, es, ep, hq, h2, h3, h4, h5⟩
  exact ⟨.ref s.heap.objs.size, _, I4, rfl, q2⟩
end
end TCX
namespace TC
set_option exponentiation.threshold 20000
open PySem PySem.Spec PyProof.Rows L2 TCA TCX
theorem NumAt.upd0 {C : Addr} {H : Hp} {d x : Addr} {L : List Part} {u o : HO} (e : H d = some u) (h1 : ∀ xs, u ≠ .tup xs) (h2 : ∀ c dx fs, u ≠ .ins c dx fs) (h : NumAt C H x L) : NumAt C (upd H d o) x L := by
  obtain ⟨dx, q, a1, us, a2, a3⟩ := h
  have nd : ∀ {b : Addr} {w : HO}, H b = some w → u ≠ w → b ≠ d := fun {b w} hb hu z => by
    rw [z, e] at hb
    exact hu (Option.some.inj hb)
  refine ⟨dx, q, by rw [upd_ne (nd a1 (h2 _ _ _))]; exact a1, us, by rw [upd_ne (nd a2 (h1 _))]; exact a2, Refs.upd (fun x z => ?_) a3⟩
  rw [e] at z
  exact h1 _ (Option.some.inj z)
theorem upV_get {lo : Int} {n i : Nat} {x : V} (h : (upV lo n)[i]? = some x) : i < n ∧ x = .int (lo + (i : Nat) * 2) := by
  unfold upV at h
  rw [List.getElem?_map] at h
  rcases Nat.lt_or_ge i n with hi | hi
  · rw [List.getElem?_range hi] at h
    exact ⟨hi, (Option.some.inj h).symm⟩
  · rw [List.getElem?_eq_none (by rw [List.length_range]; exact hi)] at h
    cases h
def kP (k : Int × Int) : List Key := [Sum.inl k.1, Sum.inl k.2]
theorem kP_inj : ∀ a b : Int × Int, kP a = kP b → a = b := fun a b e => by
  have e1 : (Sum.inl a.1 : Key) = Sum.inl b.1 := (List.cons.inj e).1
  have e2 : (Sum.inl a.2 : Key) = Sum.inl b.2 := (List.cons.inj (List.cons.inj e).2).1
  exact Prod.ext (Sum.inl.inj e1) (Sum.inl.inj e2)
/-- a linking of the sizes a and b: its keys are pairs of offsets, its values numbers -/
structure LnkAt (C : Addr) (H : Hp) (d : Addr) (a b : Int) (ks : List (Int × Int)) (fv : Int × Int → V) (N : Int × Int → List Part) : Prop where
  at_ : H d = some (.dT (entT kP ks fv))
  nd : ks.Nodup
  off : ∀ k ∈ ks, PairP b k.1 ∧ PairP a k.2
  num : ∀ k ∈ ks, ∃ x, fv k = .ref x ∧ NumAt C H x (N k)
section
variable {P : Program} {w : World} {K : PySem.W.Frag} {mg : Str → Option Value} {base : Heap} {f : Addr} {fd : FuncData} {C fI fQ : Addr}
/-! ### need_linked_sizes -/
def spNeedLinked : Sp := fun vs H Q _ => ∃ a b : Int, vs = [.int a, .int b] ∧ 0 ≤ a ∧ a ≤ 8 ∧ 0 ≤ b ∧ b ≤ 8 ∧ ∀ H', Same H H' → Q .non H'
abbrev nNeedLinked : List Str := ["by", "to", "size"]
theorem scNeedLinked : FnScope nNeedLinked ["by", "to"] (defScope sNeedLinked) := ⟨rfl, rfl, rfl, by decide +kernel, rfl, by decide +kernel, by decide +kernel⟩
theorem ok_needLinked {fIS : Addr} {fdIS : FuncData} {tH : Tok} (F : FnP K "need_linked_sizes" sNeedLinked f fd) (GIS : FnOk P w K mg base CX0 2 fIS fdIS ["thing"] spIsSize) (bIS : L2.Binds K fdIS ["thing"] []) (kIS : PySem.W.keepIn K (.ref fIS) = true) (gIS : mg "is_size" = some (.ref fIS)) (gH : mg "HIGHEST_OF_LINKING" = some (.int 8 tH)) :
    FnOk P w K mg base CX0 3 f fd ["by", "to"] spNeedLinked := by
  refine F.ok scNeedLinked (fun vs H Q E h => ?_) (fun cdv A outer s H vs Q E hr h => ?_)
  · obtain ⟨_, _, rfl, _⟩ := h
    rfl
  obtain ⟨a, b, rfl, a0, a1, b0, b1, q⟩ := h
  have hr2 := hr
  refine ⟨_, PSs.nox (pss_one (ps_for PassesOwn.never rfl (pi_tup (pe_tup (pa_cons (pv 0) (pa_cons (pv 1) pa_nil)))) (pg_name (i := 2) scNeedLinked.nd rfl (.inl rfl))
        (pss_one (ps_if (PW.pt (pw_or (pt_not (pt_val (pe_call GIS hr2 (by rfl) gIS kIS bIS .nil pass0 (pa_cons (pv 2) pa_nil)))) (pw_or1 (pt_cmpR op_gt (pv 2) (pe_glob (v := .int 8) (by rfl) gH ⟨_, rfl⟩) (nomark _))))) pss_never pss_nil)))), ?_⟩
  refine ⟨_, rfl, _, rfl, by show 2 ≤ sizeLine; decide, fun t ht => ?_⟩
  have s1 := same_upd (o := .tup ([a, b].map V.int)) ht
  refine ⟨t, rfl, ⟨_, SqT.of upd_same⟩, for_tup (xs := [a, b].map V.int) (fun i σ G => (∃ v2, σ = [some (.int a), some (.int b), v2]) ∧ G = upd H t (.tup ([a, b].map V.int))) ⟨⟨none, rfl⟩, rfl⟩ (fun i σ G _ hP => by rw [hP.2]; exact SqT.of upd_same) (fun i x σ G hx hP => ?_) (fun σ G hP => by rw [hP.2]; exact q _ s1)⟩
  obtain ⟨⟨v2, rfl⟩, rfl⟩ := hP
  obtain ⟨n, n0, n1, rfl⟩ : ∃ n : Int, 0 ≤ n ∧ n ≤ 8 ∧ x = .int n := by
    match i, hx with
    | 0, hx => exact ⟨a, a0, a1, (Option.some.inj hx).symm⟩
    | 1, hx => exact ⟨b, b0, b1, (Option.some.inj hx).symm⟩
    | j + 2, hx => cases hx
  refine ⟨_, rfl, n, rfl, n0, by omega, true, rfl, iteF ⟨_, rfl, n, 8, rfl, rfl, _, rfl, iteD0 (show ¬ (8 : Int) < n by omega) ⟨⟨_, rfl⟩, rfl⟩⟩⟩
/-! ### need_linking -/
def spNeedLinking (C : Addr) : Sp := fun vs H Q _ => ∃ (d : Addr) (a b : Int) (ks : List (Int × Int)) (fv : Int × Int → V) (N : Int × Int → List Part), vs = [.ref d, .int a, .int b] ∧ LnkAt C H d a b ks fv N ∧ 0 ≤ a ∧ a ≤ 8 ∧ 0 ≤ b ∧ b ≤ 8 ∧ ∀ H', Same H H' → Q .non H'
abbrev nNeedLinking : List Str := ["thing", "by", "to", "pair", "number"]
theorem scNeedLinking : FnScope nNeedLinking ["thing", "by", "to"] (defScope sNeedLinking) := ⟨rfl, rfl, rfl, by decide +kernel, rfl, by decide +kernel, by decide +kernel⟩
theorem ok_needLinking {fNS fIO : Addr} {fdNS fdIO : FuncData} (F : FnP K "need_linking" sNeedLinking f fd) (T : TxtN K mg C fI fQ) (GNS : FnOk P w K mg base CX0 3 fNS fdNS ["by", "to"] spNeedLinked) (bNS : L2.Binds K fdNS ["by", "to"] []) (kNS : PySem.W.keepIn K (.ref fNS) = true) (gNS : mg "need_linked_sizes" = some (.ref fNS))
    (GIO : FnOk P w K mg base CX0 2 fIO fdIO ["thing", "size"] spIsOffset2) (bIO : L2.Binds K fdIO ["thing", "size"] []) (kIO : PySem.W.keepIn K (.ref fIO) = true) (gIO : mg "is_offset" = some (.ref fIO)) (gisinstance : mg "isinstance" = none) (gdict : mg "dict" = none) (gtuple : mg "tuple" = none) (glen : mg "len" = none) :
    FnOk P w K mg base CX0 5 f fd ["thing", "by", "to"] (spNeedLinking C) := by
  refine F.ok scNeedLinking (fun vs H Q E h => ?_) (fun cdv A outer s H vs Q E hr h => ?_)
  · obtain ⟨_, _, _, _, _, _, rfl, _⟩ := h
    rfl
  obtain ⟨d, a, b, ks, fv, N, rfl, hd, a0, a1, b0, b1, q⟩ := h
  have hr2 := hr.mono (j := 2) (by decide)
  have hr4 := hr.mono (j := 3) (by decide)
  refine ⟨_, PSs.nox (pss_cons (ps_expr (pe_call GNS hr4 (by rfl) gNS kNS bNS .nil pass0 (pa_cons (pv 1) (pa_cons (pv 2) pa_nil))))
      (pss_cons (ps_if (pt_not (pt_val (pe_callB call_isi (by rfl) gisinstance (by decide +kernel) (pa_cons (pv 0) (pa_cons (pe_bltn (v := .ty "dict") (by rfl) gdict (by decide +kernel) rfl) pa_nil))))) pss_never pss_nil)
      (pss_one (ps_lock (ps_for PassesOwn.never rfl (pi_itemsT (pv 0)) (pg_tup rfl (pgs_cons (pg_name (i := 3) scNeedLinking.nd rfl (.inl rfl)) (pgs_cons (pg_name (i := 4) scNeedLinking.nd rfl (.inl rfl)) pgs_nil)))
        (pss_cons (ps_if (PW.pt (pw_or (pt_not (pt_val (pe_callB call_isi (by rfl) gisinstance (by decide +kernel) (pa_cons (pv 3) (pa_cons (pe_bltn (v := .ty "tuple") (by rfl) gtuple (by decide +kernel) rfl) pa_nil))))) (pw_or (pt_cmpR op_ne (pe_callB call_len_seq (by rfl) glen PySem.boot_len (pa_cons (pv 3) pa_nil)) pe_int (nomark _)) (pw_or1 (pt_not (pt_val (pe_callB call_isi (by rfl) gisinstance (by decide +kernel) (pa_cons (pv 4) (pa_cons (pe_glob (v := .ref C) (by rfl) T.mgC rfl) pa_nil))))))))) pss_never pss_nil)
      (pss_one (ps_if (PW.pt (pw_or (pt_not (pt_val (pe_call GIO hr2 (by rfl) gIO kIO bIO .nil pass0 (pa_cons (pe_ix ix_tup (pv 3) pe_int (fun _ _ => rfl)) (pa_cons (pv 2) pa_nil))))) (pw_or1 (pt_not (pt_val (pe_call GIO hr2 (by rfl) gIO kIO bIO .nil pass0 (pa_cons (pe_ix ix_tup (pv 3) pe_int (fun _ _ => rfl)) (pa_cons (pv 1) pa_nil)))))))) pss_never pss_nil)))))))), ?_⟩
  refine ⟨_, rfl, _, rfl, a, b, rfl, a0, a1, b0, b1, fun H1 s1 => ?_⟩
  have hd1 := s1 _ _ hd.at_
  refine ⟨_, rfl, _, _, _, _, true, rfl, .ty "dict", .base (.dT hd1), kit_ty (by decide +kernel), true, rfl, iteF ?_⟩
  refine ⟨d, .dT (entT kP ks fv), hd1, trivial, fun od => ?_⟩
  have hF := upd_same (H := H1) (a := d) (o := .frz od (.dT (entT kP ks fv)))
  have num : ∀ k ∈ ks, ∃ x, fv k = .ref x ∧ NumAt C (upd H1 d (.frz od (.dT (entT kP ks fv)))) x (N k) := fun k hk => by
    obtain ⟨x, e, hx⟩ := hd.num k hk
    exact ⟨x, e, (hx.same s1).upd0 hd1 (fun _ z => by cases z) (fun _ _ _ z => by cases z)⟩
  have back : ∀ G, Same (upd H1 d (.frz od (.dT (entT kP ks fv)))) G → Same H (upd G d (.dT (entT kP ks fv))) := fun G sG b' o eb => by
    by_cases e : b' = d
    · rw [e, upd_same]
      rw [e, hd.at_] at eb
      exact eb
    · rw [upd_ne e]
      exact sG _ _ (by rw [upd_ne e]; exact s1 _ _ eb)
  refine ⟨_, rfl, d, od, _, rfl, hF, ?_⟩
  generalize upd H1 d (.frz od (.dT (entT kP ks fv))) = HF at hF num back ⊢
  refine for_it walk_itemsT (fun i σ G => (∃ v3 v4 : Option V, σ = [some (.ref d), some (.int a), some (.int b), v3, v4]) ∧ Same HF G) ⟨⟨none, none, rfl⟩, fun _ _ e => e⟩ (fun i σ G _ hP => hP.2 _ _ hF) (fun i x σ G G' hi hP hy => ?_) (fun σ G hP => ?_)
  rotate_left
  · obtain ⟨⟨v3, v4, rfl⟩, sG⟩ := hP
    exact ⟨sG _ _ hF, q _ (back G sG)⟩
  obtain ⟨⟨v3, v4, rfl⟩, sG⟩ := hP
  obtain ⟨T3, k, v, tq, hk, rfl, hT3, htq, rfl⟩ := hy
  obtain ⟨rk, hrk, rfl, rfl⟩ := entT_get hk
  have mk : rk ∈ ks := List.mem_of_getElem? hrk
  obtain ⟨x, ex, hx⟩ := num rk mk
  obtain ⟨P1, P2⟩ := hd.off rk mk
  have u3 := same_upd (o := .tup [.ref tq, fv rk]) hT3
  have htq2 := u3 _ _ htq
  have hx2 := hx.same (sG.trans u3)
  obtain ⟨dx, p, hx3, _⟩ := id hx2
  have e1 := P1.ev
  have e2 := P2.ev
  refine ⟨T3, _, rfl, SqT.of upd_same, rfl, _, _, rfl, _, _, rfl, rfl, ?_⟩
  refine ⟨_, rfl, _, _, _, _, true, rfl, .ty "tuple", .base (.tup htq2), kit_ty (by decide +kernel), true, rfl, iteF ?_⟩
  refine ⟨_, rfl, tq, _, rfl, .inr (SqT.of htq2), rfl, _, rfl, iteF ?_⟩
  rw [ex] at hx3 htq2 u3 ⊢
  refine ⟨_, rfl, _, _, _, _, true, rfl, .own C, T.ty hx3, kit_self, true, rfl, iteF ?_⟩
  refine ⟨_, rfl, tq, _, 0, _, rfl, rfl, SqT.of htq2, atI_nat (j := 0) rfl, _, rfl, b, rk.1, rfl, e1, _, rfl, ?_⟩
  rw [decide_eq_true ⟨P1.lo, P1.hi⟩]
  refine iteF ⟨_, rfl, tq, _, 1, _, rfl, rfl, SqT.of htq2, atI_nat (j := 1) rfl, _, rfl, a, rk.2, rfl, e2, _, rfl, ?_⟩
  rw [decide_eq_true ⟨P2.lo, P2.hi⟩]
  exact iteF ⟨⟨_, _, rfl⟩, sG.trans u3⟩
/-! ### places_of -/
def plcL (q a b : Int) (n : Nat) : List (Int × Int) := ((List.range n).map fun i => (-a + (i : Nat) * 2 + q, -a + (i : Nat) * 2)).filter fun k => decide (-b ≤ k.1 ∧ k.1 ≤ b)
def spPlacesOf : Sp := fun vs H Q _ => ∃ a b q0 : Int, vs = [.int q0, .int a, .int b] ∧ 0 ≤ a ∧ a ≤ 8 ∧ 0 ≤ b ∧ b ≤ 8 ∧ (a + b + q0) % 2 = 0 ∧ ∀ (l : Addr) (us : List Addr) (H' : Hp), Same H H' → H l = none → H' l = some (.lst (us.map V.ref)) → us.length = (plcL q0 a b (a.toNat + 1)).length → (∀ (i : Nat) (u : Addr) (k : Int × Int), us[i]? = some u → (plcL q0 a b (a.toNat + 1))[i]? = some k → H' u = some (.tup [.int k.1, .int k.2])) → Q (.ref l) H'
abbrev nPlacesOf : List Str := ["q", "by", "to", "v"]
theorem scPlacesOf : FnScope nPlacesOf ["q", "by", "to"] (defScope sPlacesOf) := ⟨rfl, rfl, rfl, by decide +kernel, rfl, by decide +kernel, by decide +kernel⟩
theorem ok_placesOf {fO fIO : Addr} {fdO fdIO : FuncData} (F : FnP K "places_of" sPlacesOf f fd) (GO : FnOk P w K mg base CX0 4 fO fdO ["size"] spOffsets) (bO : L2.Binds K fdO ["size"] []) (kO : PySem.W.keepIn K (.ref fO) = true) (gO : mg "offsets" = some (.ref fO))
    (GIO : FnOk P w K mg base CX0 2 fIO fdIO ["thing", "size"] spIsOffset2) (bIO : L2.Binds K fdIO ["thing", "size"] []) (kIO : PySem.W.keepIn K (.ref fIO) = true) (gIO : mg "is_offset" = some (.ref fIO)) :
    FnOk P w K mg base CX0 5 f fd ["q", "by", "to"] spPlacesOf := by
  refine F.ok scPlacesOf (fun vs H Q E h => ?_) (fun cdv A outer s H vs Q E hr h => ?_)
  · obtain ⟨_, _, _, rfl, _⟩ := h
    rfl
  obtain ⟨a, b, q0, rfl, a0, a1, b0, b1, ev, q⟩ := h
  have hr2 := hr.mono (j := 2) (by decide)
  have hr4 := hr
  refine ⟨_, PSs.nox (pss_one (ps_ret (pe_lc (own := [("v", 3)]) (g := gName 3) (tt := (tB (tCall spIsOffset2 [] E0 (tCons (tOp (rI0 fun i j => .int (i + j)) (tVar 3) (tVar 0)) (tCons (tVar 2) tNil))))) (te := (tTup (tCons (tOp (rI0 fun i j => .int (i + j)) (tVar 3) (tVar 0)) (tCons (tVar 3) tNil)))) (by rfl) scPlacesOf.nd (pi_list (pe_call GO hr4 (by rfl) gO kO bO .nil pass0 (pa_cons (pv 1) pa_nil)))
          (blkOk_by (N := nPlacesOf) (sc := defScope sPlacesOf) (by decide +kernel)) (fun _ _ _ _ _ => pg_name (i := 3) scPlacesOf.nd rfl (.inl rfl)) (fun _ _ _ _ _ => pts_one (pt_val (pe_call GIO hr2 (by rfl) gIO kIO bIO .nil pass0 (pa_cons (pe_op op_add (pv 3) (pv 0)) (pa_cons (pv 2) pa_nil))))) (fun _ _ _ _ _ => (pe_tup (pa_cons (pe_op op_add (pv 3) (pv 0)) (pa_cons (pv 3) pa_nil))))))), ?_⟩
  refine ⟨_, rfl, a, rfl, a0, by omega, fun l H1 s1 hln hl => ?_⟩
  refine ⟨l, rfl, ⟨_, SqL.of hl⟩, fun D hD => ?_⟩
  have len : (upV (-a) (a.toNat + 1)).length = a.toNat + 1 := upV_length _ _
  refine lc_list (xs := upV (-a) (a.toNat + 1)) (fun i G => (∀ b o, H1 b = some o → G b = some o) ∧ ∃ us : List Addr, G D = some (.lst (us.map V.ref)) ∧ us.length = (plcL q0 a b i).length ∧ i ≤ a.toNat + 1 ∧ ∀ (j : Nat) (u : Addr) (k : Int × Int), us[j]? = some u → (plcL q0 a b i)[j]? = some k → G u = some (.tup [.int k.1, .int k.2])) ⟨same_upd hD, [], upd_same, rfl, Nat.zero_le _, fun j u k e => by cases e⟩ (fun i G _ hP => SqL.of (hP.1 _ _ hl)) (fun i x G hx hP => ?_) (fun G hP => ?_)
  · obtain ⟨sG, us, hG, ul, hi, at_⟩ := hP
    obtain ⟨hi2, rfl⟩ := upV_get hx
    have snoc : plcL q0 a b (i + 1) = plcL q0 a b i ++ (if -b ≤ -a + (i : Nat) * 2 + q0 ∧ -a + (i : Nat) * 2 + q0 ≤ b then [(-a + (i : Nat) * 2 + q0, -a + (i : Nat) * 2)] else []) := by
      unfold plcL
      rw [List.range_succ, List.map_append, List.filter_append]
      congr 1
      show List.filter _ [(-a + (i : Nat) * 2 + q0, -a + (i : Nat) * 2)] = _
      by_cases h : -b ≤ -a + (i : Nat) * 2 + q0 ∧ -a + (i : Nat) * 2 + q0 ≤ b
      · rw [if_pos h, List.filter_cons_of_pos (by simpa using h), List.filter_nil]
      · rw [if_neg h, List.filter_cons_of_neg (by simpa using h), List.filter_nil]
    refine ⟨rfl, ?_⟩
    refine ⟨_, rfl, _, rfl, _, q0, rfl, rfl, _, rfl, b, _, rfl, by omega, ?_⟩
    by_cases h : -b ≤ -a + (i : Nat) * 2 + q0 ∧ -a + (i : Nat) * 2 + q0 ≤ b
    · rw [decide_eq_true h]
      rw [if_pos h] at snoc
      refine ⟨true, rfl, iteT ⟨_, rfl, _, rfl, _, q0, rfl, rfl, _, rfl, by show 2 ≤ sizeLine; decide, fun u hu => ?_⟩⟩
      have u1 := same_upd (o := .tup [V.int (-a + (i : Nat) * 2 + q0), V.int (-a + (i : Nat) * 2)]) hu
      have nuD : u ≠ D := (ne_of_none hG hu).symm
      refine ⟨_, u1 _ _ hG, by rw [List.length_map, ul]; have := List.length_filter_le (fun k : Int × Int => decide (-b ≤ k.1 ∧ k.1 ≤ b)) ((List.range i).map fun i => (-a + (i : Nat) * 2 + q0, -a + (i : Nat) * 2)); rw [List.length_map, List.length_range] at this; unfold plcL; rw [sizeLine_eq]; omega, fun b' o e => ?_, us ++ [u], by rw [upd_same, List.map_append]; rfl, by rw [snoc, List.length_append, List.length_append, ul]; rfl, by omega, fun j y k ey ek => ?_⟩
      · rw [upd_ne (ne_of_none e hD)]
        exact u1 _ _ (sG _ _ e)
      · rw [snoc] at ek
        rcases Nat.lt_or_ge j us.length with hj | hj
        · rw [List.getElem?_append_left hj] at ey
          rw [List.getElem?_append_left (by omega)] at ek
          have z := at_ j y k ey ek
          have nyD : y ≠ D := fun e => by
            rw [e, hG] at z
            cases z
          rw [upd_ne nyD]
          exact u1 _ _ z
        · rw [List.getElem?_append_right hj] at ey
          rw [List.getElem?_append_right (by omega), ← ul] at ek
          have j0 : j - us.length = 0 := by
            have := (List.getElem?_eq_some_iff.mp ey).1
            rw [List.length_singleton] at this
            omega
          rw [j0] at ey ek
          cases ey
          cases ek
          rw [upd_ne nuD, upd_same]
    · rw [decide_eq_false h]
      rw [if_neg h, List.append_nil] at snoc
      exact ⟨false, rfl, iteF ⟨sG, us, hG, by rw [snoc]; exact ul, by omega, by rw [snoc]; exact at_⟩⟩
  · obtain ⟨sG, us, hG, ul, _, at_⟩ := hP
    rw [len] at ul at_
    have sH : Same H G := fun b o e => sG _ _ (s1 _ _ e)
    exact q D us G sH (s1.free hD) hG ul at_
end
end TC
namespace TCX
set_option exponentiation.threshold 20000
/-! ### binomials -/
def binN (n k : Nat) : Nat := factN n / (factN k * factN (n - k))
theorem bin_mul {n k : Nat} (h : k ≤ n) : binN n k * (factN k * factN (n - k)) = factN n := by
  have d := fact_dvd k (n - k)
  rw [show k + (n - k) = n by omega] at d
  exact Nat.div_mul_cancel d
theorem bin_succ {n k : Nat} (h : k < n) : binN n (k + 1) * (k + 1) = binN n k * (n - k) := by
  have e1 := bin_mul (n := n) (k := k + 1) h
  have e2 := bin_mul (n := n) (k := k) (by omega)
  have p1 := fact_pos k
  have p2 := fact_pos (n - (k + 1))
  have e3 : factN (n - k) = (n - k) * factN (n - (k + 1)) := by
    rw [show n - k = (n - (k + 1)) + 1 by omega]
    rfl
  have e4 : factN (k + 1) = (k + 1) * factN k := rfl
  rw [e4] at e1
  rw [e3] at e2
  refine Nat.eq_of_mul_eq_mul_right (Nat.mul_pos p1 p2) ?_
  calc binN n (k + 1) * (k + 1) * (factN k * factN (n - (k + 1))) = binN n (k + 1) * ((k + 1) * factN k * factN (n - (k + 1))) := by simp only [Nat.mul_assoc]
    _ = factN n := e1
    _ = binN n k * (factN k * ((n - k) * factN (n - (k + 1)))) := e2.symm
    _ = _ := by simp only [Nat.mul_assoc, Nat.mul_left_comm, Nat.mul_comm]
theorem bin_zero (n : Nat) : binN n 0 = 1 := by
  unfold binN
  rw [show factN 0 = 1 from rfl, Nat.one_mul, Nat.sub_zero]
  exact Nat.div_self (fact_pos n)
theorem bin_step {n k : Nat} (h : k < n) : ((binN n k : Nat) : Int) * ((n : Int) - (k : Int)) / ((k : Int) + 1) = ((binN n (k + 1) : Nat) : Int) := by
  have e : ((binN n k : Nat) : Int) * ((n : Int) - (k : Int)) = ((binN n (k + 1) : Nat) : Int) * ((k : Int) + 1) := by
    have z := congrArg (Nat.cast : Nat → Int) (bin_succ h)
    rw [Int.natCast_mul, Int.natCast_mul, Int.natCast_sub (by omega)] at z
    rw [← z]
    congr 1
  rw [e]
  exact Int.mul_ediv_cancel _ (by omega)
theorem fact_lt2P : ∀ n, n < 42 → factN n < 2 ^ 166 := by decide +kernel
theorem bin_lt {n k : Nat} (h : n < 42) : binN n k < 2 ^ 166 := Nat.lt_of_le_of_lt (Nat.div_le_self _ _) (fact_lt2P n h)
end TCX
namespace TC
set_option exponentiation.threshold 20000
open PySem PySem.Spec PyProof.Rows L2 TCA TCX
/-! ### K60LB: values over one bottom -/
def Lo (W X : Nat) (g : Int → Rat) : Prop := ∀ r, ∃ t : Int, g r * ((W : Nat) : Rat) = (t : Rat) ∧ t.natAbs ≤ X
theorem Lo.zero (W : Nat) : Lo W 0 (fun _ => 0) := fun r => ⟨0, by rw [Rat.zero_mul]; rfl, Nat.le_refl _⟩
theorem Lo.add {W X Y : Nat} {g h : Int → Rat} (a : Lo W X g) (b : Lo W Y h) : Lo W (X + Y) (fun r => g r + h r) := fun r => by
  obtain ⟨t, e, l⟩ := a r
  obtain ⟨s, e', l'⟩ := b r
  refine ⟨t + s, ?_, Nat.le_trans (Int.natAbs_add_le t s) (Nat.add_le_add l l')⟩
  rw [Rat.add_mul, e, e', ← Rat.intCast_add]
theorem Lo.imp {W X : Nat} {g h : Int → Rat} (a : Lo W X g) (e : ∀ r, g r = h r) : Lo W X h := fun r => by
  rw [← e r]
  exact a r
theorem Lo.mono {W X Y : Nat} {g : Int → Rat} (a : Lo W X g) (h : X ≤ Y) : Lo W Y g := fun r => by
  obtain ⟨t, e, l⟩ := a r
  exact ⟨t, e, Nat.le_trans l h⟩
theorem lo_frac {W A : Nat} {q : Rat} (d : q.den ∣ W) (n : q.num.natAbs < 2 ^ A) : ∃ t : Int, q * ((W : Nat) : Rat) = (t : Rat) ∧ t.natAbs ≤ 2 ^ A * W := by
  obtain ⟨m, rfl⟩ := d
  refine ⟨q.num * (m : Int), ?_, ?_⟩
  · have e := rat_frac q
    rw [Rat.natCast_mul, ← Rat.mul_assoc, e, Rat.intCast_mul]
    rfl
  · rw [Int.natAbs_mul, Int.natAbs_natCast]
    refine Nat.mul_le_mul (Nat.le_of_lt n) ?_
    exact Nat.le_mul_of_pos_left _ q.den_pos
theorem lo_fit {W A R : Nat} {L : List Part} (h : Fit W A R L) : Lo W (2 ^ A * W) (TCR.val L) := fun r => by
  refine lo_frac ?_ (h.val r)
  exact den_val h.den h.can r
theorem num_divInt {a b : Int} (hb : b ≠ 0) : (Rat.divInt a b).num.natAbs ∣ a.natAbs := by
  generalize hq : Rat.divInt a b = q
  have e : Rat.divInt a b = Rat.divInt q.num (q.den : Int) := by rw [hq, Rat.num_divInt_den]
  have d0 : ((q.den : Nat) : Int) ≠ 0 := by have := q.den_pos; omega
  rw [Rat.divInt_eq_divInt_iff hb d0] at e
  have c : Nat.Coprime q.num.natAbs q.den := q.reduced
  refine c.dvd_of_dvd_mul_right ⟨b.natAbs, ?_⟩
  have := congrArg Int.natAbs e
  rwa [Int.natAbs_mul, Int.natAbs_mul, Int.natAbs_natCast] at this
theorem Lo.sz {W X G : Nat} {g : Int → Rat} (a : Lo W X g) (W0 : 0 < W) (WG : W < 2 ^ G) (XG : X < 2 ^ G) (r : Int) : TCR.Sz G (g r) ∧ (g r).den ∣ W := by
  obtain ⟨t, e, l⟩ := a r
  have wz : ((W : Nat) : Rat) ≠ 0 := ne_of_pos (pos_nat W0)
  have eg : g r = Rat.divInt t (W : Int) := by
    rw [Rat.divInt_eq_div, Rat.intCast_natCast, ← e]
    grind
  have d := den_divInt (t := t) W0
  have n := num_divInt (a := t) (b := (W : Int)) (by omega)
  rw [← eg] at d n
  have dp := Nat.le_of_dvd W0 d
  refine ⟨⟨?_, by omega⟩, d⟩
  by_cases z : t = 0
  · rw [eg, z, Rat.zero_divInt]
    exact Nat.pow_pos (by decide)
  · have := Nat.le_of_dvd (by omega) n
    omega
theorem fact_le2 (m n : Nat) : factN m * factN n ≤ factN (m + n) := by
  have h := bin_mul (show m ≤ m + n by omega)
  rw [show m + n - m = n by omega] at h
  rw [← h]
  refine Nat.le_mul_of_pos_left _ (Nat.pos_of_ne_zero fun z => ?_)
  rw [z, Nat.zero_mul] at h
  have := fact_pos (m + n)
  omega
theorem fact_up {m n : Nat} (h : m ≤ n) : factN m ≤ factN n := by
  have z := fact_le2 m (n - m)
  rw [show m + (n - m) = n by omega] at z
  exact Nat.le_trans (Nat.le_mul_of_pos_right _ (fact_pos _)) z
theorem prodF_7 (a b c d e f g : Nat) : prodF [a, b, c, d, e, f, g] = factN a * (factN b * (factN c * (factN d * (factN e * (factN f * factN g))))) := by
  show factN a * (factN b * (factN c * (factN d * (factN e * (factN f * (factN g * 1)))))) = _
  rw [Nat.mul_one]
theorem prodF_pos' : ∀ l : List Nat, 0 < prodF l
  | [] => by decide
  | x :: l => Nat.mul_pos (fact_pos x) (prodF_pos' l)
theorem fact8 {m n : Nat} (h : m + n ≤ 8) : factN m * factN n < 2 ^ 16 := Nat.lt_of_le_of_lt (Nat.le_trans (fact_le2 m n) (fact_up h)) (by decide +kernel)
theorem fact16 {m n : Nat} (h : m + n ≤ 16) : factN m * factN n < 2 ^ 45 := Nat.lt_of_le_of_lt (Nat.le_trans (fact_le2 m n) (fact_up h)) (by decide +kernel)
theorem jAb_bd8 {a u b v c w : Int} (h1 : PairP a u) (h2 : PairP b v) (h3 : PairP c w) (a8 : a ≤ 8) (b16 : b ≤ 16) (c8 : c ≤ 8) : prodF (jAb a u b v c w) < 2 ^ 128 := by
  obtain ⟨a0, a1, a2, a3, a4⟩ := h1
  obtain ⟨b0, b1, b2, b3, b4⟩ := h2
  obtain ⟨c0, c1, c2, c3, c4⟩ := h3
  unfold jAb
  rw [prodF_7]
  have e1 : factN (c + 1).toNat < 2 ^ 19 := Nat.lt_of_le_of_lt (fact_up (show (c + 1).toNat ≤ 9 by omega)) (by decide +kernel)
  have e2 := fact8 (m := ((a + u) / 2).toNat) (n := ((a - u) / 2).toNat) (by omega)
  have e3 := fact16 (m := ((b + v) / 2).toNat) (n := ((b - v) / 2).toNat) (by omega)
  have e4 := fact8 (m := ((c + w) / 2).toNat) (n := ((c - w) / 2).toNat) (by omega)
  rw [← Nat.mul_assoc (factN ((a + u) / 2).toNat), ← Nat.mul_assoc (factN ((b + v) / 2).toNat)]
  refine Nat.lt_of_lt_of_le (Nat.mul_lt_mul'' e1 (Nat.mul_lt_mul'' e2 (Nat.mul_lt_mul'' e3 e4))) ?_
  rw [← Nat.pow_add, ← Nat.pow_add, ← Nat.pow_add]
  exact Nat.pow_le_pow_right (by decide) (by decide)
theorem jBe_bd8 {a b c : Int} (a0 : 0 ≤ a) (a8 : a ≤ 8) (b0 : 0 ≤ b) (b16 : b ≤ 16) (c0 : 0 ≤ c) (c8 : c ≤ 8) (j : canB a b c = true) : prodF (jBe a b c) < 2 ^ 110 := by
  obtain ⟨k1, t1, t2, t3⟩ := canB_iff.mp j
  unfold jBe
  have e0 : prodF [c.toNat, ((a + b + c) / 2 + 1).toNat, ((a + b - c) / 2).toNat, ((a - b + c) / 2).toNat, ((b - a + c) / 2).toNat] = factN c.toNat * (factN ((a + b + c) / 2 + 1).toNat * ((factN ((a + b - c) / 2).toNat * factN ((a - b + c) / 2).toNat) * factN ((b - a + c) / 2).toNat)) := by
    show factN c.toNat * (factN ((a + b + c) / 2 + 1).toNat * (factN ((a + b - c) / 2).toNat * (factN ((a - b + c) / 2).toNat * (factN ((b - a + c) / 2).toNat * 1)))) = _
    rw [Nat.mul_one, Nat.mul_assoc (factN ((a + b - c) / 2).toNat)]
  rw [e0]
  have e1 : factN c.toNat < 2 ^ 16 := Nat.lt_of_le_of_lt (fact_up (show c.toNat ≤ 8 by omega)) (by decide +kernel)
  have e2 : factN ((a + b + c) / 2 + 1).toNat < 2 ^ 49 := Nat.lt_of_le_of_lt (fact_up (show ((a + b + c) / 2 + 1).toNat ≤ 17 by omega)) (by decide +kernel)
  have e3 := fact8 (m := ((a + b - c) / 2).toNat) (n := ((a - b + c) / 2).toNat) (by omega)
  have e4 : factN ((b - a + c) / 2).toNat < 2 ^ 29 := Nat.lt_of_le_of_lt (fact_up (show ((b - a + c) / 2).toNat ≤ 12 by omega)) (by decide +kernel)
  refine Nat.lt_of_lt_of_le (Nat.mul_lt_mul'' e1 (Nat.mul_lt_mul'' e2 (Nat.mul_lt_mul'' e3 e4))) ?_
  rw [← Nat.pow_add, ← Nat.pow_add, ← Nat.pow_add]
  exact Nat.pow_le_pow_right (by decide) (by decide)
/-- a whole number times the root of p / q -/
theorem fit_whole {L : List Part} {s : Int} {p q A B : Nat} (hS : Su L ((s : Int) : Rat) ((p : Rat) / (q : Rat))) (p0 : 0 < p) (q0 : 0 < q) (al : s.natAbs < 2 ^ A) (pl : p < 2 ^ B) (ql : q < 2 ^ B) : Fit q (A + (B + B)) (B + B) L := by
  obtain ⟨sq, f, s0, hf, e⟩ := sq_part (p * q) (Nat.mul_pos p0 q0)
  have R := sq_rt e hf s0 q0
  have pq : p * q < 2 ^ (B + B) := by
    rw [Nat.pow_add]
    exact Nat.mul_lt_mul'' pl ql
  have fl : f < 2 ^ (B + B) := Nat.lt_of_le_of_lt (by rw [e]; exact Nat.le_mul_of_pos_left _ (Nat.mul_pos s0 s0)) pq
  have sl : sq < 2 ^ (B + B) := Nat.lt_of_le_of_lt (by rw [e]; exact Nat.le_trans (Nat.le_mul_of_pos_right _ s0) (Nat.le_mul_of_pos_right _ hf.pos)) pq
  rcases hS.shape with ⟨rfl, _⟩ | h
  · exact ⟨TCR.canon_nil, (fun x hx => by cases hx), (fun x hx => by cases hx), (fun x hx => by cases hx)⟩
  obtain ⟨eL, nz⟩ := h _ _ R
  have eq : ((s : Int) : Rat) * Rat.divInt (sq : Int) (q : Int) = Rat.divInt (s * sq) (q : Int) := by
    have z : ((s : Int) : Rat) = Rat.divInt s 1 := (Rat.num_divInt_den ((s : Int) : Rat)).symm
    rw [z, Rat.divInt_mul_divInt, Int.one_mul]
  refine ⟨hS.can, fun x hx => ?_, fun x hx => ?_, fun x hx => ?_⟩ <;> rw [eL] at hx <;> rw [List.mem_singleton.mp hx]
  · show (((s : Int) : Rat) * Rat.divInt (sq : Int) (q : Int)).den ∣ q
    rw [eq]
    exact den_divInt q0
  · show (((s : Int) : Rat) * Rat.divInt (sq : Int) (q : Int)).num.natAbs < 2 ^ (A + (B + B))
    rw [eq]
    have lo := (TCM.low_abs (s * (sq : Int)) (q : Int) (by omega)).1
    rw [TCR.low_rat _ _ (by omega)] at lo
    exact Nat.lt_of_le_of_lt lo (wide_lt al (nat_bits sl))
  · have := hf.pos
    exact ⟨by show (0 : Int) < (f : Int); omega, by show ((f : Nat) : Int).natAbs < _; rw [Int.natAbs_natCast]; exact fl⟩
theorem join_fit8 {a u b v c w : Int} (h1 : PairP a u) (h2 : PairP b v) (h3 : PairP c w) (a8 : a ≤ 8) (b16 : b ≤ 16) (c8 : c ≤ 8) (j : canB a b c = true) : Fit (prodF (jBe a b c)) 1156 256 (joinL a u b v c w) ∧ (joinL a u b v c w).length ≤ 1 := by
  by_cases J : JoinP a b c u v w
  · have S := su_joined h1 h2 h3 J
    have b1 := jAb_bd8 h1 h2 h3 a8 b16 c8
    have b2 := jBe_bd8 h1.t0 a8 h2.t0 b16 h3.t0 c8 j
    have l := S.len (quot_pos (prodF_pos' _) (prodF_pos' _))
    exact ⟨fit_whole (A := 900) (B := 128) S (prodF_pos' _) (prodF_pos' _) (jSum_lt h1 h2 h3 J) b1 (Nat.lt_of_lt_of_le b2 (Nat.pow_le_pow_right (by decide) (by decide))), l⟩
  · rw [su_joined0 J]
    exact ⟨⟨TCR.canon_nil, (fun x hx => by cases hx), (fun x hx => by cases hx), (fun x hx => by cases hx)⟩, Nat.zero_le _⟩
end TC
namespace TC
set_option exponentiation.threshold 20000
open PySem PySem.Spec PyProof.Rows L2 TCA TCX
/-! ### K60LC: tensor_in -/
theorem bEb {K : PySem.W.Frag} {f : Addr} {fd : FuncData} (F : FnE K f fd) : ∃ mv : List Value, KBn K fd psE 1 ["bottom"] (fun us ws => us ++ (ws ++ mv)) (fun vs zs => vs ++ (zs ++ [.int 1])) :=
  kbinds0 F (ps := psE) 1 ["bottom"] [("root", .int 1)] (fun us mv ws => us ++ (ws ++ mv)) (by intro z; cases z) (fun q hq => by
    rw [List.mem_singleton.mp hq]
    exact List.mem_cons_of_mem _ (List.mem_cons_self ..)) (fun a b c => a.append (c.append b)) fun D doc pm an cdv ct us mv ws h1 h2 h3 => match us, mv, ws, h1, h2, h3 with
    | [_], [_], [_], _, _, _ => ⟨_, _, _, _, _, _, rfl, rfl, rfl⟩
theorem exL_r1 (t b : Int) : exL t b 1 = oneL 1 t b := by
  unfold exL
  rw [TCM.sq_one]
  show oneL 1 (t * 1) b = _
  rw [Int.mul_one]
/-- one place's part -/
def trm (N : Int × Int → List Part) (a k q b : Int) (x : Int × Int) (r : Int) : Rat := prodG ((N x).map (·.1)) ((joinL a x.2 k q b x.1).map (·.1)) (TCR.val (N x)) (TCR.val (joinL a x.2 k q b x.1)) r
def sumR {α : Type} (l : List α) (f : α → Rat) : Rat := l.foldr (fun x s => f x + s) 0
theorem sumR_snoc {α : Type} (f : α → Rat) : ∀ (l : List α) (x : α), sumR (l ++ [x]) f = sumR l f + f x
  | [], x => by
    show f x + 0 = 0 + f x
    rw [Rat.add_zero, Rat.zero_add]
  | y :: l, x => by
    show f y + sumR (l ++ [x]) f = f y + sumR l f + f x
    rw [sumR_snoc f l x, Rat.add_assoc]
theorem sumR_perm {α : Type} (f : α → Rat) {l m : List α} (h : l.Perm m) : sumR l f = sumR m f := by
  induction h with
  | nil => rfl
  | cons x _ ih =>
    show f x + sumR _ f = f x + sumR _ f
    rw [ih]
  | swap x y l =>
    show f y + (f x + sumR l f) = f x + (f y + sumR l f)
    grind
  | trans _ _ h1 h2 => exact h1.trans h2
/-- what a linking's numbers are bounded by -/
structure LnkB (ks : List (Int × Int)) (N : Int × Int → List Part) (D : Nat) : Prop where
  d0 : 0 < D
  d1 : D < 2 ^ 110
  f : ∀ x ∈ ks, Fit D 1158 256 (N x) ∧ (N x).length ≤ 1
theorem plcL_mem {q a b : Int} {n : Nat} {x : Int × Int} (h : x ∈ plcL q a b n) : (∃ i : Nat, i < n ∧ x.2 = -a + (i : Nat) * 2) ∧ x.1 = x.2 + q ∧ -b ≤ x.1 ∧ x.1 ≤ b := by
  unfold plcL at h
  obtain ⟨h1, h2⟩ := List.mem_filter.mp h
  obtain ⟨i, hi, rfl⟩ := List.mem_map.mp h1
  have h2 := of_decide_eq_true h2
  exact ⟨⟨i, List.mem_range.mp hi, rfl⟩, rfl, h2⟩
theorem plcL_len (q a b : Int) (n : Nat) : (plcL q a b n).length ≤ n := by
  unfold plcL
  refine Nat.le_trans (List.length_filter_le _ _) ?_
  rw [List.length_map, List.length_range]
  exact Nat.le_refl _
section
variable {P : Program} {w : World} {K : PySem.W.Frag} {mg : Str → Option Value} {base : Heap} {f : Addr} {fd : FuncData} {C fI fQ : Addr}
def inK (ks : List (Int × Int)) (x : Int × Int) : Bool := decide (x ∈ ks)
def spTensorIn (C : Addr) : Sp := fun vs H Q _ => ∃ (d p : Addr) (a b k q0 : Int) (ks : List (Int × Int)) (fv : Int × Int → V) (N : Int × Int → List Part) (D : Nat), vs = [.ref d, .ref p, .int a, .int b] ∧ H p = some (pairO (k, q0)) ∧ LnkAt C H d a b ks fv N ∧ LnkB ks N D ∧ 0 ≤ a ∧ a ≤ 8 ∧ 0 ≤ b ∧ b ≤ 8 ∧ PairP k q0 ∧ canB a k b = true ∧
  ∀ z M H', Same H H' → H z = none → NumAt C H' z M → TCR.Canon M → (∀ r, TCR.val M r = sumR ((plcL q0 a b (a.toNat + 1)).filter (inK ks)) (fun x => trm N a k q0 b x r) * Rat.divInt (k + 1) (b + 1)) → Q (.ref z) H'
abbrev nTensorIn : List Str := ["linking", "pair", "by", "to", "k", "q", "total", "w", "v"]
theorem scTensorIn : FnScope nTensorIn ["linking", "pair", "by", "to"] (defScope sTensorIn) := ⟨rfl, rfl, rfl, by decide +kernel, rfl, by decide +kernel, by decide +kernel⟩
set_option maxHeartbeats 0 in
theorem ok_tensorIn {fE fPL fP fM fJ : Addr} {fdE fdPL fdP fdM fdJ : FuncData} (F : FnP K "tensor_in" sTensorIn f fd) (FE : FnE K fE fdE) (GE : FnOk P w K mg base CX0 4 fE fdE psE (spExact C)) (gE : mg "exact" = some (.ref fE))
    (GPL : FnOk P w K mg base CX0 5 fPL fdPL ["q", "by", "to"] spPlacesOf) (bPL : L2.Binds K fdPL ["q", "by", "to"] []) (kPL : PySem.W.keepIn K (.ref fPL) = true) (gPL : mg "places_of" = some (.ref fPL))
    (GP : FnOk P w K mg base CX0 4 fP fdP ["one", "other"] (spPlus C)) (bP : L2.Binds K fdP ["one", "other"] []) (kP : PySem.W.keepIn K (.ref fP) = true) (gP : mg "plus" = some (.ref fP))
    (GM : FnOk P w K mg base CX0 4 fM fdM ["one", "other"] (spTimes C)) (bM : L2.Binds K fdM ["one", "other"] []) (kM : PySem.W.keepIn K (.ref fM) = true) (gM : mg "times" = some (.ref fM))
    (GJ : FnOk P w K mg base CX0 5 fJ fdJ ["one", "other", "to"] (spJoinedN C)) (bJ : L2.Binds K fdJ ["one", "other", "to"] []) (kJ : PySem.W.keepIn K (.ref fJ) = true) (gJ : mg "joined_number" = some (.ref fJ)) :
    FnOk P w K mg base CX0 6 f fd ["linking", "pair", "by", "to"] (spTensorIn C) := by
  obtain ⟨dsE, vE, bE⟩ := bE0 FE
  obtain ⟨mvB, kbB⟩ := bEb FE
  refine F.ok scTensorIn (fun vs H Q E h => ?_) (fun cdv Ar outer s H vs Q E' hr h => ?_)
  · obtain ⟨_, _, _, _, _, _, _, _, _, _, rfl, _⟩ := h
    rfl
  obtain ⟨d, p, a, b, k, q0, ks, fv, N, D, rfl, hp, hL, hB, a0, a8, b0, b8, Pk, cj, q⟩ := h
  obtain ⟨k1, k2, k3, k4⟩ := canB_iff.mp cj
  have hu := hu_of hr
  have hr4 := hr.mono (j := 4) (by decide)
  have hr5 := hr
  have ke := Pk.ev
  have k16 : k ≤ 16 := by omega
  refine ⟨_, PSs.nox (C8.pss_cut (ps_asg (pv 1) (pg_tup rfl (pgs_cons (pg_name (i := 4) scTensorIn.nd rfl (.inl rfl)) (pgs_cons (pg_name (i := 5) scTensorIn.nd rfl (.inl rfl)) pgs_nil))))
      (C8.pss_cut (ps_set (i := 6) scTensorIn.nd rfl (.inl rfl) (pe_call GE hr4 (by rfl) gE FE.kp bE vE pass0 (pa_cons pe_int pa_nil)))
      (C8.pss_cut (ps_for PassesOwn.never rfl (pi_list (pe_call GPL hr5 (by rfl) gPL kPL bPL .nil pass0 (pa_cons (pv 5) (pa_cons (pv 2) (pa_cons (pv 3) pa_nil))))) (pg_tup rfl (pgs_cons (pg_name (i := 7) scTensorIn.nd rfl (.inl rfl)) (pgs_cons (pg_name (i := 8) scTensorIn.nd rfl (.inl rfl)) pgs_nil)))
        (pss_one (ps_if (pt_cmp (pc_din hu (pe_tup (pa_cons (pv 7) (pa_cons (pv 8) pa_nil))) (pv 0))) (pss_one (ps_set (i := 6) scTensorIn.nd rfl (.inl rfl) (pe_call GP hr4 (by rfl) gP kP bP .nil pass0 (pa_cons (pv 6) (pa_cons (pe_call GM hr4 (by rfl) gM kM bM .nil pass0 (pa_cons (pe_dget hu (pv 0) (pe_tup (pa_cons (pv 7) (pa_cons (pv 8) pa_nil))) (fun _ _ => rfl)) (pa_cons (pe_call GJ hr5 (by rfl) gJ kJ bJ .nil pass0 (pa_cons (pe_tup (pa_cons (pv 2) (pa_cons (pv 8) pa_nil))) (pa_cons (pv 1) (pa_cons (pe_tup (pa_cons (pv 3) (pa_cons (pv 7) pa_nil))) pa_nil)))) pa_nil))) pa_nil))))) pss_nil)))
      (pss_one (ps_ret (pe_call GM hr4 (by rfl) gM kM bM .nil pass0 (pa_cons (pv 6) (pa_cons (pe_callN GE hr4 (by rfl) gE FE.kp kbB pass0 (pa_cons (pe_op op_add (pv 4) pe_int) pa_nil) (pk_cons (pe_op op_add (pv 3) pe_int) pk_nil)) pa_nil)))))))), ?_⟩
  have sth : ∀ {H' : Hp}, Same H H' → LnkAt C H' d a b ks fv N := fun s => ⟨s _ _ hL.at_, hL.nd, hL.off, fun x hx => by
    obtain ⟨y, e, z⟩ := hL.num x hx
    exact ⟨y, e, z.same s⟩⟩
  refine ⟨fun σ H1 => σ = [some (.ref d), some (.ref p), some (.int a), some (.int b), some (.int k), some (.int q0), none, none, none] ∧ H1 = H, ⟨_, rfl, p, _, rfl, SqT.of hp, rfl, _, _, rfl, _, _, rfl, rfl, rfl, rfl⟩, fun σ H1 hh => ?_⟩
  obtain ⟨rfl, rfl⟩ := hh
  refine ⟨fun σ H2 => ∃ x : Addr, σ = [some (.ref d), some (.ref p), some (.int a), some (.int b), some (.int k), some (.int q0), some (.ref x), none, none] ∧ Same H1 H2 ∧ NumAt C H2 x [], ⟨0, 1, 1, 40, rfl, by decide, by decide, by decide, by decide, root_ok1, fun x H2 s2 hx hN => ⟨x, rfl, s2, by rw [exL_one, show oneL 1 0 1 = [] from if_pos rfl] at hN; exact hN⟩⟩, fun σ H2 hh => ?_⟩
  obtain ⟨x0, rfl, s2, hx0⟩ := hh
  have W0 : 0 < D * prodF (jBe a k b) := Nat.mul_pos hB.d0 (prodF_pos' _)
  have bj := jBe_bd8 a0 a8 Pk.t0 k16 b0 b8 cj
  have WG : D * prodF (jBe a k b) < 2 ^ 220 := by
    rw [show 220 = 110 + 110 from rfl, Nat.pow_add]
    exact Nat.mul_lt_mul'' hB.d1 bj
  -- the sum
  refine ⟨fun σ H3 => ∃ (x : Addr) (v7 v8 : Option V) (M : List Part), σ = [some (.ref d), some (.ref p), some (.int a), some (.int b), some (.int k), some (.int q0), some (.ref x), v7, v8] ∧ Same H1 H3 ∧ NumAt C H3 x M ∧ TCR.Canon M ∧ M.length ≤ 9 ∧ (∀ y ∈ M, 0 < y.1 ∧ y.1.natAbs < 2 ^ 512) ∧ Lo (D * prodF (jBe a k b)) (9 * 2 ^ 3020) (TCR.val M) ∧ (∀ r, TCR.val M r = sumR ((plcL q0 a b (a.toNat + 1)).filter (inK ks)) (fun x => trm N a k q0 b x r)), ?_, fun σ H3 hh => ?_⟩
  · refine ⟨_, rfl, _, rfl, _, rfl, a, b, q0, rfl, a0, a8, b0, b8, by omega, fun l us H3 s3 hl hl2 hlen hus => ?_⟩
    have pL := plcL_len q0 a b (a.toNat + 1)
    refine ⟨l, rfl, ⟨_, SqL.of hl2⟩, for_list (xs := us.map V.ref) (fun i σ G => ∃ (x : Addr) (v7 v8 : Option V) (M : List Part), σ = [some (.ref d), some (.ref p), some (.int a), some (.int b), some (.int k), some (.int q0), some (.ref x), v7, v8] ∧ Same H3 G ∧ NumAt C G x M ∧ TCR.Canon M ∧ M.length ≤ i ∧ (∀ y ∈ M, 0 < y.1 ∧ y.1.natAbs < 2 ^ 512) ∧ Lo (D * prodF (jBe a k b)) (i * 2 ^ 3020) (TCR.val M) ∧ (∀ r, TCR.val M r = sumR (((plcL q0 a b (a.toNat + 1)).take i).filter (inK ks)) (fun x => trm N a k q0 b x r)))
      ⟨x0, none, none, [], rfl, Same.refl _, hx0.same s3, TCR.canon_nil, Nat.le_refl _, (fun y hy => by cases hy), (Lo.zero _).mono (by omega), fun r => rfl⟩ (fun i σ G _ hP => ?_) (fun i y σ G hy hP => ?_) (fun σ G hP => ?_)⟩
    · obtain ⟨_, _, _, _, _, sG, _⟩ := hP
      exact SqL.of (sG _ _ hl2)
    rotate_left
    · obtain ⟨x, v7, v8, M, rfl, sG, hM, cM, lM, rM, LM, vM⟩ := hP
      rw [List.length_map] at lM LM vM
      rw [hlen, List.take_length] at vM
      exact ⟨x, v7, v8, M, rfl, (s2.trans s3).trans sG, hM, cM, by omega, rM, LM.mono (Nat.mul_le_mul_right _ (by omega)), vM⟩
    obtain ⟨x, v7, v8, M, rfl, sG, hM, cM, lM, rM, LM, vM⟩ := hP
    rw [List.getElem?_map] at hy
    obtain ⟨u, hu', rfl⟩ := Option.map_eq_some_iff.mp hy
    have il : i < us.length := (List.getElem?_eq_some_iff.mp hu').1
    obtain ⟨kk, hkk⟩ : ∃ kk, (plcL q0 a b (a.toNat + 1))[i]? = some kk := ⟨_, List.getElem?_eq_getElem (by omega)⟩
    have hkm := plcL_mem (List.mem_of_getElem? hkk)
    obtain ⟨⟨i', hi', e2⟩, e1, bl, bh⟩ := hkm
    have Pv : PairP a kk.2 := ⟨a0, by omega, by omega, by omega, by omega⟩
    have Pw : PairP b kk.1 := ⟨b0, by omega, bl, bh, by have := Pk.ev; omega⟩
    have hut := sG _ _ (hus i u kk hu' hkk)
    have tk : (plcL q0 a b (a.toNat + 1)).take (i + 1) = (plcL q0 a b (a.toNat + 1)).take i ++ [kk] := by
      rw [List.take_add_one, hkk]
      rfl
    refine ⟨u, _, rfl, SqT.of hut, rfl, _, _, rfl, _, _, rfl, rfl, ?_⟩
    refine ⟨_, rfl, _, rfl, by show 2 ≤ sizeLine; decide, fun t ht => ?_⟩
    have st := same_upd (o := .tup [.int kk.1, .int kk.2]) ht
    have hLt := sth (((s2.trans s3).trans sG).trans st)
    by_cases z : kk ∈ ks
    · refine ⟨_, rfl, d, _, rfl, dget_entT_in kP_inj hLt.at_ upd_same z, ?_⟩
      refine ⟨_, rfl, ?_⟩
      refine iteT ?_
      obtain ⟨y, ey, hy'⟩ := hLt.num kk z
      obtain ⟨fN, lN⟩ := hB.f kk z
      obtain ⟨fJ, lJ⟩ := join_fit8 Pv Pk Pw a8 k16 b8 cj
      refine ⟨_, rfl, _, rfl, _, rfl, _, rfl, by show 2 ≤ sizeLine; decide, fun t2 ht2 => ?_⟩
      have st2 := same_upd (o := .tup [.int kk.1, .int kk.2]) ht2
      refine ⟨d, _, rfl, dget_entT_in kP_inj (st2 _ _ hLt.at_) upd_same z, ?_⟩
      refine ⟨_, rfl, _, rfl, by show 2 ≤ sizeLine; decide, fun t3 ht3 => ?_⟩
      have st3 := same_upd (o := .tup [.int a, .int kk.2]) ht3
      refine ⟨_, rfl, _, rfl, _, rfl, by show 2 ≤ sizeLine; decide, fun t4 ht4 => ?_⟩
      have st4 := same_upd (o := .tup [.int b, .int kk.1]) ht4
      have sA := ((st.trans st2).trans st3).trans st4
      refine ⟨t3, p, t4, a, kk.2, k, q0, b, kk.1, rfl, st4 _ _ upd_same, sA _ _ (((s2.trans s3).trans sG) _ _ hp), upd_same, Pv, Pk, Pw, fun z1 G1 s5 hz1 hN1 => ?_⟩
      have sB := sA.trans s5
      refine ⟨y, z1, N kk, joinL a kk.2 k q0 b kk.1, D, prodF (jBe a k b), 1158, 1156, 110, 110, 256, by rw [ey]; rfl, ((hy'.same ((st2.trans st3).trans st4)).same s5), hN1, fN, fJ, hB.d0, prodF_pos' _, hB.d1, bj, by decide, by decide, by decide, by decide, by decide, by decide, by decide, by decide, by omega, by omega, ?_, fun z2 K2 G2 s6 hz2 hN2 fK vK lK => ?_⟩
      · have := Nat.mul_le_mul lN lJ
        omega
      have lK1 : K2.length ≤ 1 := by
        have := Nat.mul_le_mul lN lJ
        omega
      have i9 : i < 9 := by omega
      have X9 : i * 2 ^ 3020 < 2 ^ 3024 := by
        have : (2 : Nat) ^ 3024 = 16 * 2 ^ 3020 := by rw [show (16 : Nat) = 2 ^ 4 from rfl, ← Nat.pow_add]
        rw [this]
        exact Nat.mul_lt_mul_of_pos_right (by omega) (Nat.pow_pos (by decide))
      have WG' : D * prodF (jBe a k b) < 2 ^ 3024 := Nat.lt_of_lt_of_le WG (Nat.pow_le_pow_right (by decide) (by decide))
      have LK : Lo (D * prodF (jBe a k b)) (2 ^ 3020) (TCR.val K2) := (lo_fit fK).mono (by
        rw [show 3020 = 2800 + 220 from rfl, Nat.pow_add]
        exact Nat.mul_le_mul_left _ (Nat.le_of_lt WG))
      have g1 : Good 3024 M := good_of cM fun r => (LM.sz W0 WG' X9 r).1
      have g2 : Good 3024 K2 := good_of fK.can fun r => (LK.sz W0 WG' (Nat.pow_lt_pow_right (by decide) (by decide)) r).1
      refine ⟨x, z2, M, K2, 3024, 3024, rfl, (hM.same sB).same s6, hN2, g1, g2, by decide, by decide, by decide, by omega, fun z3 K3 G3 s7 hz3 hN3 g3 v3 l3 => ?_⟩
      have c3 := g3.1
      refine ⟨z3, some (.int kk.1), some (.int kk.2), K3, rfl, ((sG.trans sB).trans s6).trans s7, hN3, c3, by omega, fun y' hy3 => ?_, ?_, fun r => ?_⟩
      · have nz : TCR.val K3 y'.1 ≠ 0 := by
          rw [c3.mem hy3]
          exact c3.nz y' hy3
        rw [v3] at nz
        by_cases zM : TCR.val M y'.1 = 0
        · have zK : TCR.val K2 y'.1 ≠ 0 := fun e => nz (by rw [zM, e, Rat.add_zero])
          obtain ⟨q', hq'⟩ := fK.can.val_ne.mp zK
          have w := fK.pos _ hq'
          exact w
        · obtain ⟨q', hq'⟩ := cM.val_ne.mp zM
          have w := rM _ hq'
          exact w
      · rw [Nat.add_mul, Nat.one_mul]
        exact (LM.add LK).imp fun r => (v3 r).symm
      · rw [v3 r, tk, List.filter_append, List.filter_cons_of_pos (show inK ks kk = true by unfold inK; exact decide_eq_true z), List.filter_nil, sumR_snoc, vM r, vK r]
        rfl
    · refine ⟨_, rfl, d, _, rfl, dget_entT_out kP_inj hLt.at_ upd_same z, ?_⟩
      refine ⟨_, rfl, iteF ?_⟩
      refine ⟨x, some (.int kk.1), some (.int kk.2), M, rfl, sG.trans st, hM.same st, cM, by omega, rM, LM.mono (Nat.mul_le_mul_right _ (by omega)), fun r => ?_⟩
      rw [tk, List.filter_append, List.filter_cons_of_neg (show ¬ inK ks kk = true by unfold inK; rw [decide_eq_false z]; exact Bool.false_ne_true), List.filter_nil, List.append_nil]
      exact vM r
  obtain ⟨x1, v7, v8, M, rfl, s3, hM, cM, lM, rM, LM, vM⟩ := hh
  have WG' : D * prodF (jBe a k b) < 2 ^ 3024 := Nat.lt_of_lt_of_le WG (Nat.pow_le_pow_right (by decide) (by decide))
  have X9 : 9 * 2 ^ 3020 < 2 ^ 3024 := by
    have : (2 : Nat) ^ 3024 = 16 * 2 ^ 3020 := by rw [show (16 : Nat) = 2 ^ 4 from rfl, ← Nat.pow_add]
    rw [this]
    exact Nat.mul_lt_mul_of_pos_right (by omega) (Nat.pow_pos (by decide))
  have fM : Fit (D * prodF (jBe a k b)) 3024 512 M := ⟨cM, fun x hx => by rw [← cM.mem hx]; exact (LM.sz W0 WG' X9 x.1).2, fun x hx => by rw [← cM.mem hx]; exact (LM.sz W0 WG' X9 x.1).1.1, rM⟩
  refine ⟨_, rfl, _, rfl, _, _, rfl, rfl, _, rfl, _, _, rfl, rfl, rfl, rfl, k + 1, b + 1, 1, 40, rfl, by omega, ?_, by decide, by decide, root_ok1, fun y H4 s4 hy hN => ?_⟩
  · have : (2 : Nat) ^ 40 = 1099511627776 := by decide
    omega
  have b0' : b + 1 ≠ 0 := by omega
  have b20 : (b + 1).natAbs < 2 ^ 20 := by
    have : (2 : Nat) ^ 20 = 1048576 := by decide
    omega
  have k20 : (k + 1).natAbs < 2 ^ 20 := by
    have : (2 : Nat) ^ 20 = 1048576 := by decide
    omega
  have eb : b + 1 = (((b + 1).toNat : Nat) : Int) := by omega
  have SE : Fit (b + 1).toNat 20 512 (exL (k + 1) (b + 1) 1) := by
    have hk0 : k + 1 ≠ 0 := by have := Pk.t0; omega
    rw [exL_r1]
    unfold oneL
    rw [if_neg hk0]
    refine ⟨TCR.canon_one (divInt_ne b0' hk0), fun x hx => ?_, fun x hx => ?_, fun x hx => ?_⟩ <;> rw [List.mem_singleton.mp hx]
    · show (Rat.divInt (k + 1) (b + 1)).den ∣ (b + 1).toNat
      rw [eb]
      exact den_divInt (by omega)
    · show (Rat.divInt (k + 1) (b + 1)).num.natAbs < 2 ^ 20
      have lo := (TCM.low_abs (k + 1) (b + 1) b0').1
      rw [TCR.low_rat _ _ b0'] at lo
      exact Nat.lt_of_le_of_lt lo k20
    · exact ⟨by show (0 : Int) < 1; decide, Nat.one_lt_two_pow (by decide)⟩
  have lE : (exL (k + 1) (b + 1) 1).length ≤ 1 := by
    rw [exL_r1]
    exact len_oneL _ _ _
  refine ⟨x1, y, M, _, D * prodF (jBe a k b), (b + 1).toNat, 3024, 20, 220, 20, 512, rfl, hM.same s4, hN, fM, SE, W0, by omega, WG, by omega, by decide, by decide, by decide, by decide, by decide, by decide, by decide, by decide, by omega, by omega, ?_, fun z K5 H5 s5 hz hN5 f5 v5 l5 => ?_⟩
  · have := Nat.mul_le_mul lM lE
    omega
  refine q z K5 H5 ((s3.trans s4).trans s5) ((s3.trans s4).free hz) hN5 f5.can fun r => ?_
  rw [v5 r, ← vM r]
  have cE : Cov (TCR.val (exL (k + 1) (b + 1) 1)) [1] := ⟨by simp, fun s hs => by
    rw [exL_r1, val_oneL] at hs
    exact List.mem_singleton.mpr (Classical.byContradiction fun z => hs (if_neg z))⟩
  have cM' := cov_can cM
  rw [prodG_supp cM' cM' (cov_can SE.can) cE]
  have e2 : TCR.val (exL (k + 1) (b + 1) 1) = fun s => if s = 1 then Rat.divInt (k + 1) (b + 1) else 0 := funext fun s => by rw [exL_r1, val_oneL]
  rw [e2, prodG_one _ cM' (fun s hs => by
    obtain ⟨y', hy', rfl⟩ := List.mem_map.mp hs
    exact (rM y' hy').1), Rat.mul_comm]
end
end TC
/-! repr of a list whose items are data or empty dicts. -/
namespace TCX
open PySem PySem.Spec PyProof.Rows L2
/-- data, or an empty dict -/
def DpZ (K : PySem.W.Frag) (H : Hp) (v : V) (d : PyData) : Prop := (Dp K H v d ∧ d.hasDict = false) ∨ ∃ a, v = .ref a ∧ H a = some (.dK []) ∧ d = .dict []
inductive RAll (h : Heap) : List Value → List PyData → Prop
  | nil : RAll h [] []
  | cons {v : Value} {vs : List Value} {d : PyData} {ds : List PyData} {as : List Addr} : Reads h v d as → (d.hasDict = true → sysModules ∉ as) → RAll h vs ds → RAll h (v :: vs) (d :: ds)
theorem RAll.reads {h : Heap} : ∀ {vs : List Value} {ds : List PyData}, RAll h vs ds → ∃ as, ReadsAll h vs ds as
  | _, _, .nil => ⟨_, .nil⟩
  | _, _, .cons r _ rs => by
    obtain ⟨bs, q⟩ := rs.reads
    exact ⟨_, .cons r q⟩
theorem RAll.repr {prog : Program} {w : World} {h₀ : Heap} : ∀ {vs : List Value} {ds : List PyData}, RAll h₀ vs ds → PyData.showableAll ds = true → (∀ t ∈ PyData.shownAll ds, t.length ≤ sizeLine) →
    ∃ bs, ReadAtMost h₀ (PyData.depthAll ds) bs ∧ ReprAllK prog w bs h₀ (PyData.depthAll ds) vs (PyData.shownAll ds)
  | _, _, .nil, _, _ => ⟨[], (fun _ h => nomatch h), by simp only [PyData.shownAll]; exact .nil⟩
  | _, _, .cons (d := d) (ds := ds) r hn rs, hs, hz => by
    have hs' : d.showable = true ∧ PyData.showableAll ds = true := by simpa [PyData.showableAll] using hs
    obtain ⟨b1, hb1, k1⟩ := ReprK.of_reads r hs'.1 hn (hz _ (by simp only [PyData.shownAll]; exact List.mem_cons_self ..))
    obtain ⟨b2, hb2, k2⟩ := rs.repr hs'.2 (fun t ht => hz t (by simp only [PyData.shownAll]; exact List.mem_cons_of_mem _ ht))
    refine ⟨b1 ++ b2, ?_, ?_⟩
    · simp only [PyData.depthAll]
      exact (hb1.mono (Nat.le_max_left _ _)).append (hb2.mono (Nat.le_max_right _ _))
    · simp only [PyData.depthAll, PyData.shownAll]
      exact .cons ((k1.more fun b hb => List.mem_append_left _ hb).level_le (Nat.le_max_left _ _)) (k2.more_le (fun b hb => List.mem_append_right _ hb) (Nat.le_max_right _ _))
section
variable {X : Cx}
theorem dz_reads {pins : List (Addr × Obj)} {σ : L2.St} {H : Hp} {s : Shared} (I : Inv X pins σ H s) {v : V} {u : Value} {d : PyData} (h : DpZ X.K H v d) (r : RelV v u) : ∃ as, Reads s.heap u d as ∧ (d.hasDict = true → sysModules ∉ as) := by
  rcases h with ⟨h, hn⟩ | ⟨a, rfl, ha, rfl⟩
  · obtain ⟨as, q⟩ := Dp.reads I d v u h r
    exact ⟨as, q, fun z => by rw [hn] at z; cases z⟩
  · cases (show u = Value.ref a from r)
    obtain ⟨_, hd, vs0, r0, dd⟩ := dk_of I.hok ha
    cases r0
    obtain ⟨o, es, ep, hq, hx, hdat, _, hpr, _⟩ := dd
    have es0 : es.toList = [] := by
      cases h : es.toList with
      | nil => rfl
      | cons x l =>
        rw [h] at hpr
        cases hpr
    refine ⟨_, Reads.dict (kvs := []) hq hx.1 hdat (by rw [es0]; exact .nil) (by rw [es0]; exact .nil), fun _ z => ?_⟩
    simp at z
    rw [z] at hd
    simp at hd
theorem dz_all {pins : List (Addr × Obj)} {σ : L2.St} {H : Hp} {s : Shared} (I : Inv X pins σ H s) : ∀ {vs : List V} {us : List Value} {ds : List PyData}, Paired (DpZ X.K H) vs ds → Vals vs us → RAll s.heap us ds
  | _, _, _, .nil, .nil => .nil
  | _, _, _, .cons h t, .cons r rs => by
    obtain ⟨as, q, n⟩ := dz_reads I h r
    exact .cons q n (dz_all I t rs)
/-- repr of such a list -/
theorem call_reprZ (hG : X.A.guards = some []) (hu : X.A.units + 64 < cLine) : CallR X (.builtin "repr") (fun xs H Q => ∃ (a : Addr) (vs : List V) (ds : List PyData), xs = [.ref a] ∧ H a = some (.lst vs) ∧ vs ≠ [] ∧ Paired (DpZ X.K H) vs ds ∧ (PyData.list ds).showable = true ∧ (PyData.list ds).depth ≤ 60 ∧ (PyData.list ds).shown.length ≤ sizeLine ∧ Q (.str (PyData.list ds).shown) H) := by
  intro pins s σ H xs us Q I r h
  obtain ⟨a, vs, ds, rfl, ha, hne, hp, hs, hdp, hz, q⟩ := h
  rw [Vals.ref1 r]
  obtain ⟨its, rv, ⟨o, n, ho, hc, _, hd⟩, _⟩ := I.list (SqL.of ha)
  have ra := dz_all I hp rv
  have hz' : (listText (PyData.shownAll ds)).length ≤ sizeLine := by simpa only [PyData.shown] using hz
  obtain ⟨bs, hb, hk⟩ := ra.repr (prog := X.prog) (w := X.w) (by simpa [PyData.showable] using hs) (fun t ht => Nat.le_trans (listText_mem_le ht) hz')
  obtain ⟨as, h4⟩ := ra.reads
  have hna : a ∉ bs := not_mem_of_deeper (Reads.list ho hc hd h4) (by simp only [PyData.depth]; omega) hb
  have hu2 : X.A.units + 1 + (PyData.depthAll ds + 1) < cLine := by
    have : PyData.depthAll ds + 1 ≤ 60 := by simpa only [PyData.depth] using hdp
    omega
  cases rv with
  | nil => exact absurd rfl hne
  | cons r1 r2 =>
    refine call_repr_slot (by omega) ⟨o, ho, hc⟩ PySem.F.slot_list_repr.toG (call_list_reprK ho hc hd hna (by simpa using hk.length_eq) (fun i y e => hk.item i y (by simpa using e)) (show X.A.in1.guards = some [] from hG) (fun b _ => Clear.nil b) hu2 (fun _ _ z => z) (fun h' u tk hkp => ⟨_, _, rfl, ?_⟩) hz')
    refine ⟨.str (listText (PyData.shownAll ds)), H, I.kept (t' := tk) hkp, ⟨u, rfl⟩, ?_⟩
    simpa only [PyData.shown] using q
end
end TCX
namespace TC
set_option exponentiation.threshold 20000
open PySem PySem.Spec PyProof.Rows L2 TCA TCX
/-! ### K60LD: resolved -/
/-- the canonical parts of values, where there are such -/
noncomputable def cnOf (g : Int → Rat) : List Part := open Classical in if h : ∃ L, TCR.Canon L ∧ ∀ r, TCR.val L r = g r then Classical.choose h else []
theorem cnOf_eq {g : Int → Rat} {L : List Part} (c : TCR.Canon L) (v : ∀ r, TCR.val L r = g r) : cnOf g = L := by
  have h : ∃ L, TCR.Canon L ∧ ∀ r, TCR.val L r = g r := ⟨L, c, v⟩
  unfold cnOf
  rw [dif_pos h]
  have z := Classical.choose_spec h
  exact TCR.canon_eq z.1 c fun r => (z.2 r).trans (v r).symm
/-- the value of one tensor in a linking -/
def tv (ks : List (Int × Int)) (N : Int × Int → List Part) (a b : Int) (x : Int × Int) (r : Int) : Rat := sumR ((plcL x.2 a b (a.toNat + 1)).filter (inK ks)) (fun y => trm N a x.1 x.2 b y r) * Rat.divInt (x.1 + 1) (b + 1)
noncomputable def tM (ks : List (Int × Int)) (N : Int × Int → List Part) (a b : Int) (x : Int × Int) : List Part := cnOf (tv ks N a b x)
/-- the tensors of a row -/
def qL (k : Int) (n : Nat) : List (Int × Int) := (List.range n).map fun (j : Nat) => (k, -k + 2 * (j : Int))
def lo8 (a b : Int) : Int := if a - b < 0 then -(a - b) else a - b
def kqL (a b : Int) : Nat → List (Int × Int)
  | 0 => []
  | i + 1 => kqL a b i ++ qL (lo8 a b + 2 * (i : Int)) (lo8 a b + 2 * (i : Int) + 1).toNat
noncomputable def nzB (ks : List (Int × Int)) (N : Int × Int → List Part) (a b : Int) (x : Int × Int) : Bool := !(tM ks N a b x).isEmpty
theorem nzB_t {ks : List (Int × Int)} {N : Int × Int → List Part} {a b : Int} {x : Int × Int} (h : tM ks N a b x ≠ []) : nzB ks N a b x = true := by
  unfold nzB
  cases e : tM ks N a b x with
  | nil => exact absurd e h
  | cons _ _ => rfl
theorem nzB_f {ks : List (Int × Int)} {N : Int × Int → List Part} {a b : Int} {x : Int × Int} (h : tM ks N a b x = []) : ¬ nzB ks N a b x = true := by
  unfold nzB
  rw [h]
  exact Bool.false_ne_true
noncomputable def rowsL (ks : List (Int × Int)) (N : Int × Int → List Part) (a b : Int) (l : List (Int × Int)) : List ((Int × Int) × List Part) := (l.filter (nzB ks N a b)).map fun x => (x, tM ks N a b x)
theorem rowsL_snoc (ks : List (Int × Int)) (N : Int × Int → List Part) (a b : Int) (l : List (Int × Int)) (x : Int × Int) : rowsL ks N a b (l ++ [x]) = rowsL ks N a b l ++ (if tM ks N a b x ≠ [] then [(x, tM ks N a b x)] else []) := by
  unfold rowsL
  rw [List.filter_append, List.map_append]
  congr 1
  by_cases z : tM ks N a b x ≠ []
  · rw [List.filter_cons_of_pos (nzB_t z), if_pos z]
    rfl
  · rw [List.filter_cons_of_neg (nzB_f (Classical.not_not.mp z)), if_neg z]
    rfl
structure RowsAt (C : Addr) (H : Hp) (us : List Addr) (L : List ((Int × Int) × List Part)) : Prop where
  len : us.length = L.length
  at_ : ∀ (i : Nat) (u : Addr) (y : (Int × Int) × List Part), us[i]? = some u → L[i]? = some y → ∃ x, H u = some (.tup [.int y.1.1, .int y.1.2, .ref x]) ∧ NumAt C H x y.2
theorem RowsAt.nil (C : Addr) (H : Hp) : RowsAt C H [] [] := ⟨rfl, fun i u y h => by simp at h⟩
theorem RowsAt.same {C : Addr} {H H' : Hp} {us : List Addr} {L : List ((Int × Int) × List Part)} (h : RowsAt C H us L) (s : Same H H') : RowsAt C H' us L := ⟨h.len, fun i u y hu hy => by
  obtain ⟨x, e, n⟩ := h.at_ i u y hu hy
  exact ⟨x, s _ _ e, n.same s⟩⟩
theorem NumAt.updLs {C : Addr} {H : Hp} {l x : Addr} {o : HO} {ys : List V} {L : List Part} (hl : H l = some (.lst ys)) (h : NumAt C H x L) : NumAt C (upd H l o) x L := h.upd0 hl (fun xs z => by cases z) (fun c dx fs z => by cases z)
theorem RowsAt.updLs {C : Addr} {H : Hp} {us : List Addr} {L : List ((Int × Int) × List Part)} {l : Addr} {o : HO} {ys : List V} (h : RowsAt C H us L) (hl : H l = some (.lst ys)) : RowsAt C (upd H l o) us L := ⟨h.len, fun i u y hu hy => by
  obtain ⟨x, e, n⟩ := h.at_ i u y hu hy
  exact ⟨x, by rw [upd_ne fun z => by rw [z, hl] at e; cases e]; exact e, n.updLs hl⟩⟩
theorem RowsAt.snoc {C : Addr} {H : Hp} {us : List Addr} {L : List ((Int × Int) × List Part)} {u x : Addr} {y : (Int × Int) × List Part} (h : RowsAt C H us L) (e : H u = some (.tup [.int y.1.1, .int y.1.2, .ref x])) (n : NumAt C H x y.2) : RowsAt C H (us ++ [u]) (L ++ [y]) := by
  refine ⟨by rw [List.length_append, List.length_append, h.len]; rfl, fun i u' y' hu hy => ?_⟩
  by_cases z : i < us.length
  · rw [List.getElem?_append_left z] at hu
    rw [List.getElem?_append_left (by rw [← h.len]; exact z)] at hy
    exact h.at_ i u' y' hu hy
  · have il : i < (us ++ [u]).length := (List.getElem?_eq_some_iff.mp hu).1
    rw [List.length_append] at il
    have ei : i = us.length := by
      have : ([u] : List Addr).length = 1 := rfl
      omega
    rw [ei, List.getElem?_append_right (Nat.le_refl _), Nat.sub_self] at hu
    rw [ei, h.len, List.getElem?_append_right (Nat.le_refl _), Nat.sub_self] at hy
    cases hu
    cases hy
    exact ⟨x, e, n⟩
end TC
namespace TC
set_option exponentiation.threshold 20000
open PySem PySem.Spec PyProof.Rows L2 TCA TCX
theorem kqL_len {a b : Int} (h : lo8 a b ≤ 8) : ∀ i, i ≤ 9 → (kqL a b i).length ≤ 25 * i
  | 0, _ => Nat.le_refl _
  | i + 1, hi => by
    show (kqL a b i ++ qL _ _).length ≤ _
    rw [List.length_append]
    have := kqL_len h i (by omega)
    have e2 : (qL (lo8 a b + 2 * (i : Int)) (lo8 a b + 2 * (i : Int) + 1).toNat).length ≤ 25 := by
      unfold qL
      rw [List.length_map, List.length_range]
      omega
    omega
theorem LnkAt.same {C : Addr} {H H' : Hp} {d : Addr} {a b : Int} {ks : List (Int × Int)} {fv : Int × Int → V} {N : Int × Int → List Part} (h : LnkAt C H d a b ks fv N) (s : Same H H') : LnkAt C H' d a b ks fv N := ⟨s _ _ h.at_, h.nd, h.off, fun x hx => by
  obtain ⟨y, e, z⟩ := h.num x hx
  exact ⟨y, e, z.same s⟩⟩
theorem LnkAt.updLs {C : Addr} {H : Hp} {d l : Addr} {o : HO} {ys : List V} {a b : Int} {ks : List (Int × Int)} {fv : Int × Int → V} {N : Int × Int → List Part} (h : LnkAt C H d a b ks fv N) (hl : H l = some (.lst ys)) : LnkAt C (upd H l o) d a b ks fv N := ⟨by rw [upd_ne fun z => by rw [← z, h.at_] at hl; cases hl]; exact h.at_, h.nd, h.off, fun x hx => by
  obtain ⟨y, e, z⟩ := h.num x hx
  exact ⟨y, e, z.updLs hl⟩⟩
section
variable {P : Program} {w : World} {K : PySem.W.Frag} {mg : Str → Option Value} {base : Heap} {f : Addr} {fd : FuncData} {C fI fQ : Addr}
def mAB (a b : Int) : Nat := (if a < b then a else b).toNat
def spResolved (C : Addr) : Sp := fun vs H Q _ => ∃ (d : Addr) (a b : Int) (ks : List (Int × Int)) (fv : Int × Int → V) (N : Int × Int → List Part) (D : Nat), vs = [.ref d, .int a, .int b] ∧ LnkAt C H d a b ks fv N ∧ LnkB ks N D ∧ 0 ≤ a ∧ a ≤ 8 ∧ 0 ≤ b ∧ b ≤ 8 ∧
  ∀ l us H', Same H H' → H l = none → H' l = some (.lst (us.map V.ref)) → RowsAt C H' us (rowsL ks N a b (kqL a b (mAB a b + 1))) → Q (.ref l) H'
abbrev nResolved : List Str := ["linking", "by", "to", "found", "k", "q", "number"]
theorem scResolved : FnScope nResolved ["linking", "by", "to"] (defScope sResolved) := ⟨rfl, rfl, rfl, by decide +kernel, rfl, by decide +kernel, by decide +kernel⟩
theorem ok_resolved {fNL fZ fO fTI : Addr} {fdNL fdZ fdO fdTI : FuncData} (F : FnP K "resolved" sResolved f fd) (T : TxtN K mg C fI fQ)
    (GNL : FnOk P w K mg base CX0 5 fNL fdNL ["thing", "by", "to"] (spNeedLinking C)) (bNL : L2.Binds K fdNL ["thing", "by", "to"] []) (kNL : PySem.W.keepIn K (.ref fNL) = true) (gNL : mg "need_linking" = some (.ref fNL))
    (GZ : FnOk P w K mg base CX0 4 fZ fdZ ["one", "other"] spSizesOf) (bZ : L2.Binds K fdZ ["one", "other"] []) (kZ : PySem.W.keepIn K (.ref fZ) = true) (gZ : mg "sizes_of" = some (.ref fZ))
    (GO : FnOk P w K mg base CX0 4 fO fdO ["size"] spOffsets) (bO : L2.Binds K fdO ["size"] []) (kO : PySem.W.keepIn K (.ref fO) = true) (gO : mg "offsets" = some (.ref fO))
    (GTI : FnOk P w K mg base CX0 6 fTI fdTI ["linking", "pair", "by", "to"] (spTensorIn C)) (bTI : L2.Binds K fdTI ["linking", "pair", "by", "to"] []) (kTI : PySem.W.keepIn K (.ref fTI) = true) (gTI : mg "tensor_in" = some (.ref fTI)) :
    FnOk P w K mg base CX0 7 f fd ["linking", "by", "to"] (spResolved C) := by
  refine F.ok scResolved (fun vs H Q E h => ?_) (fun cdv Ar outer s H vs Q E' hr h => ?_)
  · obtain ⟨_, _, _, _, _, _, _, rfl, _⟩ := h
    rfl
  obtain ⟨d, a, b, ks, fv, N, D, rfl, hL, hB, a0, a8, b0, b8, q⟩ := h
  have hu := hr.units
  have hr4 := hr.mono (j := 4) (by decide)
  have hr5 := hr.mono (j := 5) (by decide)
  have hr6 := hr
  refine ⟨_, PSs.nox (C8.pss_cut (ps_expr (pe_call GNL hr5 (by rfl) gNL kNL bNL .nil pass0 (pa_cons (pv 0) (pa_cons (pv 1) (pa_cons (pv 2) pa_nil)))))
      (C8.pss_cut (ps_set (i := 3) scResolved.nd rfl (.inl rfl) (pe_lst pa_nil))
      (C8.pss_cut (ps_for PassesOwn.never rfl (pi_list (pe_call GZ hr4 (by rfl) gZ kZ bZ .nil pass0 (pa_cons (pv 1) (pa_cons (pv 2) pa_nil)))) (pg_name (i := 4) scResolved.nd rfl (.inl rfl))
        (pss_one (ps_for PassesOwn.never rfl (pi_list (pe_call GO hr4 (by rfl) gO kO bO .nil pass0 (pa_cons (pv 4) pa_nil))) (pg_name (i := 5) scResolved.nd rfl (.inl rfl))
        (C8.pss_cut (ps_set (i := 6) scResolved.nd rfl (.inl rfl) (pe_call GTI hr6 (by rfl) gTI kTI bTI .nil pass0 (pa_cons (pv 0) (pa_cons (pe_tup (pa_cons (pv 4) (pa_cons (pv 5) pa_nil))) (pa_cons (pv 1) (pa_cons (pv 2) pa_nil))))))
      (pss_one (ps_if (pt_cmpR (op_neD hu) (pe_fld (pv 6) rfl) (pe_tup pa_nil) (nomark _)) (pss_one (ps_expr (pe_bm PySem.F.plainAttrs_list PySem.F.slot_list_append PySem.F.type_list_append mt_append (pv 3) (pa_cons (pe_tup (pa_cons (pv 4) (pa_cons (pv 5) (pa_cons (pv 6) pa_nil)))) pa_nil)))) pss_nil))))))
      (pss_one (ps_ret (pv 3)))))), ?_⟩
  refine ⟨fun σ H1 => σ = [some (.ref d), some (.int a), some (.int b), none, none, none, none] ∧ Same H H1, ⟨_, rfl, _, rfl, _, rfl, d, a, b, ks, fv, N, rfl, hL, a0, a8, b0, b8, fun H1 s1 => ⟨rfl, s1⟩⟩, fun σ H1 hh => ?_⟩
  obtain ⟨rfl, s1⟩ := hh
  refine ⟨fun σ H2 => ∃ l : Addr, σ = [some (.ref d), some (.int a), some (.int b), some (.ref l), none, none, none] ∧ Same H H2 ∧ H l = none ∧ H2 l = some (.lst []), ⟨by show 0 ≤ sizeLine; decide, fun l hl => ⟨l, rfl, s1.trans (same_upd hl), s1.free hl, upd_same⟩⟩, fun σ H2 hh => ?_⟩
  obtain ⟨l, rfl, s2, hl, hl2⟩ := hh
  refine ⟨fun σ H3 => ∃ (us : List Addr) (v4 v5 v6 : Option V), σ = [some (.ref d), some (.int a), some (.int b), some (.ref l), v4, v5, v6] ∧ Same H H3 ∧ H3 l = some (.lst (us.map V.ref)) ∧ RowsAt C H3 us (rowsL ks N a b (kqL a b (mAB a b + 1))), ?_, fun σ H3 hh => ?_⟩
  rotate_left
  · obtain ⟨us, v4, v5, v6, rfl, s3, hl3, hR⟩ := hh
    exact ⟨_, rfl, q l us _ s3 hl hl3 hR⟩
  refine ⟨_, rfl, _, rfl, a, b, (if a < b then a else b), rfl, a0, by omega, b0, by omega, rfl, fun z H3 s3 hz hz3 => ?_⟩
  have lz : (upV (lo8 a b) (mAB a b + 1)).length = mAB a b + 1 := by
    unfold upV
    rw [List.length_map, List.length_range]
  have nlz : l ≠ z := ne_of_none hl2 hz
  refine ⟨z, rfl, ⟨_, SqL.of hz3⟩, for_list (xs := upV (lo8 a b) (mAB a b + 1)) (fun i σ G => ∃ (us : List Addr) (v4 v5 v6 : Option V), σ = [some (.ref d), some (.int a), some (.int b), some (.ref l), v4, v5, v6] ∧ Same H G ∧ G z = some (.lst (upV (lo8 a b) (mAB a b + 1))) ∧ G l = some (.lst (us.map V.ref)) ∧ RowsAt C G us (rowsL ks N a b (kqL a b i)))
    ⟨[], none, none, none, rfl, s2.trans s3, hz3, s3 _ _ hl2, RowsAt.nil _ _⟩ (fun i σ G _ hP => ?_) (fun i x σ G hx hP => ?_) (fun σ G hP => ?_)⟩
  · obtain ⟨_, _, _, _, _, _, z4, _⟩ := hP
    exact SqL.of z4
  rotate_left
  · obtain ⟨us, v4, v5, v6, rfl, sG, _, hG, hR⟩ := hP
    rw [lz] at hR
    exact ⟨us, v4, v5, v6, rfl, sG, hG, hR⟩
  obtain ⟨us, v4, v5, v6, rfl, sG, hzG, hG, hR⟩ := hP
  obtain ⟨il, rfl⟩ := upV_get hx
  obtain ⟨k, ek⟩ : ∃ k : Int, lo8 a b + ((i : Nat) : Int) * 2 = k := ⟨_, rfl⟩
  rw [ek]
  have lo0 : 0 ≤ lo8 a b ∧ lo8 a b ≤ 8 := by unfold lo8; split <;> omega
  have mab : ((mAB a b : Nat) : Int) ≤ 8 ∧ lo8 a b + 2 * (mAB a b : Nat) = a + b := by unfold lo8 mAB; split <;> split <;> omega
  have cj : canB a k b = true := canB_iff.mpr (by unfold lo8 mAB at *; split at ek <;> split at il <;> omega)
  have ekq : qL (lo8 a b + 2 * (i : Int)) (lo8 a b + 2 * (i : Int) + 1).toNat = qL k (k.toNat + 1) := by
    rw [show lo8 a b + 2 * (i : Int) = k by omega, show (k + 1).toNat = k.toNat + 1 by omega]
  refine ⟨_, rfl, k, rfl, by omega, by omega, fun y H4 s4 hy hy4 => ?_⟩
  have ly : (upV (-k) (k.toNat + 1)).length = k.toNat + 1 := by
    unfold upV
    rw [List.length_map, List.length_range]
  have nly : l ≠ y := ne_of_none hG hy
  refine ⟨y, rfl, ⟨_, SqL.of hy4⟩, for_list (xs := upV (-k) (k.toNat + 1)) (fun j σ G' => ∃ (us : List Addr) (v5 v6 : Option V), σ = [some (.ref d), some (.int a), some (.int b), some (.ref l), some (.int k), v5, v6] ∧ Same H G' ∧ G' z = some (.lst (upV (lo8 a b) (mAB a b + 1))) ∧ G' y = some (.lst (upV (-k) (k.toNat + 1))) ∧ G' l = some (.lst (us.map V.ref)) ∧ RowsAt C G' us (rowsL ks N a b (kqL a b i ++ qL k j)))
    ⟨us, v5, v6, rfl, sG.trans s4, s4 _ _ hzG, hy4, s4 _ _ hG, by rw [show qL k 0 = [] from rfl, List.append_nil]; exact hR.same s4⟩ (fun j σ G' _ hP => ?_) (fun j x σ G' hx' hP => ?_) (fun σ G' hP => ?_)⟩
  · obtain ⟨_, _, _, _, _, _, y5, _⟩ := hP
    exact SqL.of y5
  rotate_left
  · obtain ⟨us, v5, v6, rfl, sG', hzG', _, hG', hR'⟩ := hP
    rw [ly] at hR'
    refine ⟨us, _, _, _, rfl, sG', hzG', hG', ?_⟩
    show RowsAt C G' us (rowsL ks N a b (kqL a b i ++ qL (lo8 a b + 2 * (i : Int)) (lo8 a b + 2 * (i : Int) + 1).toNat))
    rw [ekq]
    exact hR'
  clear hR hG hzG sG us v5 v6
  obtain ⟨us, v5, v6, rfl, sG', hzG', hyG', hG', hR'⟩ := hP
  obtain ⟨jl, rfl⟩ := upV_get hx'
  obtain ⟨q0, eq0⟩ : ∃ q0 : Int, -k + ((j : Nat) : Int) * 2 = q0 := ⟨_, rfl⟩
  rw [eq0]
  have Pk : PairP k q0 := ⟨by omega, by omega, by omega, by omega, by omega⟩
  have eqs : qL k (j + 1) = qL k j ++ [(k, q0)] := by
    unfold qL
    rw [List.range_succ, List.map_append]
    show _ = _ ++ [(k, q0)]
    rw [← eq0, Int.mul_comm]
    rfl
  -- the number
  refine ⟨fun σ G2 => ∃ x : Addr, σ = [some (.ref d), some (.int a), some (.int b), some (.ref l), some (.int k), some (.int q0), some (.ref x)] ∧ Same G' G2 ∧ NumAt C G2 x (tM ks N a b (k, q0)), ?_, fun σ G2 hh => ?_⟩
  · refine ⟨_, rfl, _, rfl, _, rfl, by show 2 ≤ sizeLine; decide, fun t ht => ?_⟩
    have st := same_upd (o := .tup [.int k, .int q0]) ht
    refine ⟨_, rfl, _, rfl, d, t, a, b, k, q0, ks, fv, N, D, rfl, upd_same, hL.same (sG'.trans st), hB, a0, a8, b0, b8, Pk, cj, fun x M G2 s2' hx hM cM vM => ?_⟩
    have eM : tM ks N a b (k, q0) = M := cnOf_eq cM vM
    exact ⟨x, rfl, st.trans s2', by rw [eM]; exact hM⟩
  obtain ⟨x, rfl, s2', hM⟩ := hh
  have hG2 := s2' _ _ hG'
  have hR2 := hR'.same s2'
  have sH2 := sG'.trans s2'
  obtain ⟨dx, px, hx1, hpx⟩ := id hM
  refine ⟨_, rfl, x, C, dx, _, _, rfl, hx1, T.cl, T.nP, rfl, by show 0 ≤ sizeLine; decide, fun t ht => ?_⟩
  have st := same_upd (o := .tup []) ht
  refine ⟨toD (tM ks N a b (k, q0)), .tuple [], (hpx.same st).dp, .tup (SqT.of upd_same) .nil, toD_shaped _, rfl, ?_⟩
  refine ⟨!decide (tM ks N a b (k, q0) = []), congrArg (fun b => V.bl (!b)) (toD_eqv _ []), ?_⟩
  by_cases z0 : tM ks N a b (k, q0) = []
  · rw [decide_eq_true z0]
    refine iteF ?_
    refine ⟨us, _, _, rfl, sH2.trans st, st _ _ (s2' _ _ hzG'), st _ _ (s2' _ _ hyG'), st _ _ hG2, ?_⟩
    rw [eqs, ← List.append_assoc, rowsL_snoc, if_neg (fun n => n z0), List.append_nil]
    exact hR2.same st
  · rw [decide_eq_false z0]
    refine iteT ?_
    have hx2 := hM.same st
    refine ⟨_, rfl, .inl ⟨rfl, _, SqL.of (st _ _ hG2)⟩, _, rfl, _, rfl, _, rfl, by show 3 ≤ sizeLine; decide, fun t3 ht3 => ?_⟩
    have s3' := same_upd (o := .tup [.int k, .int q0, .ref x]) ht3
    have hl3 := s3' _ _ (st _ _ hG2)
    have lenR : us.length ≤ 250 := by
      rw [hR2.len]
      unfold rowsL
      rw [List.length_map]
      refine Nat.le_trans (List.length_filter_le _ _) ?_
      rw [List.length_append]
      have e1 := kqL_len (show lo8 a b ≤ 8 from lo0.2) i (by omega)
      have e2 : (qL k j).length = j := by
        unfold qL
        rw [List.length_map, List.length_range]
      omega
    refine ⟨l, _, .ref t3, rfl, rfl, hl3, Nat.lt_of_le_of_lt (m := 1000) (by rw [List.length_map]; omega) (by decide), ?_⟩
    have hy3 := s3' _ _ (st _ _ (s2' _ _ hyG'))
    have hz3' := s3' _ _ (st _ _ (s2' _ _ hzG'))
    have hRn := ((hR2.same st).same s3').snoc (y := ((k, q0), tM ks N a b (k, q0))) upd_same (hx2.same s3')
    have sl : Same H (upd (upd (upd G2 t (.tup [])) t3 (.tup [.int k, .int q0, .ref x])) l (.lst (us.map V.ref ++ [.ref t3]))) := same_at ((sH2.trans st).trans s3') hl
    refine ⟨us ++ [t3], _, _, rfl, sl, ?_, ?_, ?_, ?_⟩
    · rw [upd_ne nlz.symm]
      exact hz3'
    · rw [upd_ne nly.symm]
      exact hy3
    · rw [upd_same, List.map_append]
      rfl
    · rw [eqs, ← List.append_assoc, rowsL_snoc, if_pos z0]
      exact hRn.updLs hl3
end
end TC
/-! EYO: len(set(xs)) of a list of whole numbers, with repeats (after the library's rule for lists without) -/
namespace TCX
open PySem PySem.Spec PyProof.Rows L2
/-- how many unlike ones there are -/
def dedN (ns : List Int) : Nat := (firstMet (fun i => ns.getD i 0) ns.length).length
theorem firstMet_mem (f : Nat → Int) : ∀ i x, x ∈ firstMet f i ↔ ∃ j, j < i ∧ f j = x
  | 0, x => by
    rw [firstMet_zero]
    exact ⟨(fun h => by cases h), fun ⟨j, h, _⟩ => absurd h (Nat.not_lt_zero j)⟩
  | i + 1, x => by
    have ih := firstMet_mem f i
    rw [firstMet_succ]
    unfold step_dedup
    by_cases e : (firstMet f i).any (· == f i) = true
    · rw [if_pos e, ih]
      obtain ⟨y, hy, ey⟩ := List.any_eq_true.mp e
      have ey := eq_of_beq ey
      subst ey
      obtain ⟨j, hj, ej⟩ := (ih _).mp hy
      refine ⟨fun ⟨j, h, e⟩ => ⟨j, by omega, e⟩, fun ⟨j', h, e'⟩ => ?_⟩
      by_cases z : j' = i
      · subst z
        exact ⟨j, hj, ej.trans e'⟩
      · exact ⟨j', by omega, e'⟩
    · rw [if_neg e, List.mem_append, ih, List.mem_singleton]
      refine ⟨fun h => ?_, fun ⟨j, h, e'⟩ => ?_⟩
      · rcases h with ⟨j, h, e'⟩ | h
        · exact ⟨j, by omega, e'⟩
        · exact ⟨i, by omega, h.symm⟩
      · by_cases z : j = i
        · subst z
          exact .inr e'.symm
        · exact .inl ⟨j, by omega, e'⟩
theorem firstMet_same (f : Nat → Int) (c : Int) : ∀ i, 0 < i → (∀ j, j < i → f j = c) → firstMet f i = [c]
  | 0, h, _ => by omega
  | 1, _, h => by
    rw [firstMet_succ, firstMet_zero, h 0 (by omega)]
    rfl
  | i + 2, _, h => by
    rw [firstMet_succ, firstMet_same f c (i + 1) (by omega) fun j hj => h j (by omega), h (i + 1) (by omega)]
    unfold step_dedup
    rw [if_pos (by simp)]
theorem dedN_one {n : Int} {ns : List Int} : dedN (n :: ns) = 1 ↔ ∀ x ∈ ns, x = n := by
  unfold dedN
  have get : ∀ j (h : j < (n :: ns).length), (n :: ns).getD j 0 = (n :: ns)[j] := fun j h => by
    rw [List.getD_eq_getElem?_getD, List.getElem?_eq_getElem h] <;> rfl
  constructor
  · intro h x hx
    obtain ⟨j, hj, ej⟩ := List.mem_iff_getElem.mp (List.mem_cons_of_mem n hx)
    have m1 := (firstMet_mem (fun i => (n :: ns).getD i 0) (n :: ns).length x).mpr ⟨j, hj, (get j hj).trans ej⟩
    have m0 := (firstMet_mem (fun i => (n :: ns).getD i 0) (n :: ns).length n).mpr ⟨0, by simp, rfl⟩
    match hl : firstMet (fun i => (n :: ns).getD i 0) (n :: ns).length, h, m1, m0 with
    | [y], _, m1, m0 => rw [List.mem_singleton.mp m1, List.mem_singleton.mp m0]
  · intro h
    rw [firstMet_same _ n _ (by simp) fun j hj => ?_]
    · rfl
    · rw [get j hj]
      rcases List.mem_cons.mp (List.getElem_mem hj) with e | e
      · exact e
      · exact h _ e
theorem dedN_nil : dedN [] = 0 := rfl
theorem intsAre_vals2 : ∀ {ns : List Int} {us : List Value}, Vals (ns.map V.int) us → PyProof.Rows.IntsAre us ns
  | [], _, .nil => .nil
  | n :: ns, _, .cons r t => by
    obtain ⟨k, rfl⟩ := r
    exact .cons n k (intsAre_vals2 t)
def tLenSetD (K : PySem.W.Frag) (ta : TE) : TE := fun σ H Q => ta σ H fun x H1 => ∃ (l : Addr) (ns : List Int), x = .ref l ∧ SqL K H1 l (ns.map V.int) ∧ ns.length ≤ 4000 ∧ Q (.int (dedN ns : Nat)) H1
theorem pe_lenSetD {X : Cx} {a : Expr} {ta : TE} {p p2 q pos : Pos} (hg : Gl X "len") (hm : X.mg "len" = none) (hg2 : Gl X "set") (hm2 : X.mg "set" = none) (ha : PE X a ta) (hc : X.calm = true := by rfl)
    (na : starEach [a] X.env = (false, eval a X.env) :: starEach [] X.env := by rfl) : PE X (.Call (.Name "len" p) [.Call (.Name "set" p2) [a] [] q] [] pos) (tLenSetD X.K ta) := by
  refine ⟨fun pins s σ H Q I h => ?_⟩
  refine Call_ (ld_blt I hg hm boot_len ?_)
  refine PyProof.Rows.callWith_builtin1 (PyProof.Rows.args_cons ?_ rfl) rfl rfl
  refine Call_ (ld_blt I hg2 hm2 boot_set ?_)
  refine PyProof.Rows.callWith_type1 (PyProof.Rows.args_cons (thn (ha.run pins s σ H _ I h) fun v s1 ⟨x, H1, I1, r1, q1⟩ => PyProof.Rows.args_nil ?_) na) na rfl
  obtain ⟨l, ns, rfl, hq, hl, q1⟩ := q1
  cases r1
  obtain ⟨its, r, pl, hz⟩ := I1.list hq
  have hlen : its.toArray.size = ns.length := by rw [List.size_toArray, ← r.length, List.length_map]
  refine call_set_list (I1.ok.hd hc) pl.isList (by simpa using intsAre_vals2 r) (by rw [hlen]; unfold scanBound; omega) fun h' tk hS hk => ?_
  refine PyProof.Rows.args_nil ?_
  rw [hlen] at hS
  obtain ⟨o, es, ep, t, ho, hex, hd, _, _, _, hf, hn⟩ := hS
  have I2 : Inv X pins σ H1 { s1 with heap := h', toks := tk } := I1.kept fun b o e => hk b o (Heap.lt_size e) e
  have fl := firstMet_length_le (fun i => ns.getD i 0) ns.length
  exact call_len_set ho hex hd hf (by rw [hn] <;> omega) ⟨.int (dedN ns), H1, I2.tok _, ⟨_, by rw [hn]; rfl⟩, q1⟩
end TCX
namespace TC
set_option exponentiation.threshold 20000
open PySem PySem.Spec PyProof.Rows L2 TCA TCX
section
variable {K : PySem.W.Frag} {x : Str} {params : Arguments} {body : List Stmt} {scope : Scope} {kws : List (Str × V)} {f : Addr} {fd : FuncData} {ps : List Str} {qual : Str}
/-- a call with keywords of a def without defaults, in order and the other way -/
theorem kbindsN (F : FunD K x qual params body scope [] kws f fd) (n : Nat) (ks : List Str)
    (h : ∀ (kV doc pm : Value) (an : Option Addr) (cdv ct : Value) (us ws : List Value), us.length = n → ws.length = ks.length → bindArgs (PySem.W.fnOf x qual params body scope .none kV doc pm an cdv ct) ⟨us, ks.zip ws⟩ = pure (ps.zip (us ++ ws))) :
    KBn K fd ps n ks (fun us ws => us ++ ws) (fun vs zs => vs ++ zs) := by
  obtain ⟨oc, od, dV, kV, doc, pm, an, cdv, ct, osl, rfl, lk, hcd, hD, hK⟩ := F.ex
  rcases hD with ⟨_, rfl⟩ | ⟨e, _⟩
  · exact ⟨fun s us ws X l1 l2 => .of_eq (h kV doc pm an cdv ct us ws l1 l2), fun r1 r2 => r1.append r2⟩
  · exact absurd rfl e
theorem kbindsR (F : FunD K x qual params body scope [] kws f fd) (n : Nat) (ks : List Str)
    (h : ∀ (kV doc pm : Value) (an : Option Addr) (cdv ct : Value) (us ws : List Value), us.length = n → ws.length = ks.length → bindArgs (PySem.W.fnOf x qual params body scope .none kV doc pm an cdv ct) ⟨us, ks.zip ws⟩ = pure (ps.zip (us ++ ws.reverse))) :
    KBn K fd ps n ks (fun us ws => us ++ ws.reverse) (fun vs zs => vs ++ zs.reverse) := by
  obtain ⟨oc, od, dV, kV, doc, pm, an, cdv, ct, osl, rfl, lk, hcd, hD, hK⟩ := F.ex
  rcases hD with ⟨_, rfl⟩ | ⟨e, _⟩
  · exact ⟨fun s us ws X l1 l2 => .of_eq (h kV doc pm an cdv ct us ws l1 l2), fun r1 r2 => r1.append (Vals.rev r2)⟩
  · exact absurd rfl e
end
/-- what rank_of tells of the sizes -/
def rankV : List Int → V
  | [] => .non
  | n :: ns => if (ns.all fun x => decide (x = n)) = true then .int n else .non
section
variable {P : Program} {w : World} {K : PySem.W.Frag} {mg : Str → Option Value} {base : Heap} {f : Addr} {fd : FuncData} {C fI fQ : Addr}
noncomputable def ranksL (ks : List (Int × Int)) (N : Int × Int → List Part) (a b : Int) : List Int := (rowsL ks N a b (kqL a b (mAB a b + 1))).map fun y => y.1.1
def spRankOf (C : Addr) : Sp := fun vs H Q _ => ∃ (d : Addr) (a b : Int) (ks : List (Int × Int)) (fv : Int × Int → V) (N : Int × Int → List Part) (D : Nat), vs = [.ref d, .int a, .int b] ∧ LnkAt C H d a b ks fv N ∧ LnkB ks N D ∧ 0 ≤ a ∧ a ≤ 8 ∧ 0 ≤ b ∧ b ≤ 8 ∧
  ∀ H', Same H H' → Q (rankV (ranksL ks N a b)) H'
abbrev nRankOf : List Str := ["linking", "by", "to", "ranks", "k", "q", "number"]
theorem scRankOf : FnScope nRankOf ["linking", "by", "to"] (defScope sRankOf) := ⟨rfl, rfl, rfl, by decide +kernel, rfl, by decide +kernel, by decide +kernel⟩
theorem rowsL_len {ks : List (Int × Int)} {N : Int × Int → List Part} {a b : Int} (a0 : 0 ≤ a) (a8 : a ≤ 8) (b0 : 0 ≤ b) (b8 : b ≤ 8) : (rowsL ks N a b (kqL a b (mAB a b + 1))).length ≤ 225 := by
  unfold rowsL
  rw [List.length_map]
  refine Nat.le_trans (List.length_filter_le _ _) ?_
  have lo : lo8 a b ≤ 8 := by unfold lo8; split <;> omega
  have m : mAB a b ≤ 8 := by unfold mAB; split <;> omega
  have := kqL_len lo (mAB a b + 1) (by omega)
  omega
theorem ok_rankOf {fR : Addr} {fdR : FuncData} (F : FnP K "rank_of" sRankOf f fd) (FR : FnP K "resolved" sResolved fR fdR) (GR : FnOk P w K mg base CX0 7 fR fdR ["linking", "by", "to"] (spResolved C)) (gR : mg "resolved" = some (.ref fR)) (glen : mg "len" = none) (gset : mg "set" = none) :
    FnOk P w K mg base CX0 8 f fd ["linking", "by", "to"] (spRankOf C) := by
  have kbR : KBn K fdR ["linking", "by", "to"] 1 ["by", "to"] (fun us ws => us ++ ws) (fun vs zs => vs ++ zs) := kbindsN FR 1 ["by", "to"] (fun _ _ _ _ _ _ us ws h1 h2 => match us, ws, h1, h2 with
    | [_], [_, _], _, _ => rfl)
  refine F.ok scRankOf (fun vs H Q E h => ?_) (fun cdv Ar outer s H vs Q E' hr h => ?_)
  · obtain ⟨_, _, _, _, _, _, _, rfl, _⟩ := h
    rfl
  obtain ⟨d, a, b, ks, fv, N, D, rfl, hL, hB, a0, a8, b0, b8, q⟩ := h
  refine ⟨_, PSs.nox (C8.pss_cut (ps_setLc (i := 3) (own := [("k", 4), ("q", 5), ("number", 6)]) (g := gTup K 3 (gCons (gName 4) (gCons (gName 5) (gCons (gName 6) gNil)))) (tt := tYes) (te := (tVar 4)) (by rfl) scRankOf.nd rfl rfl (sw_true rfl rfl rfl (by decide +kernel)) (pi_list (pe_callN GR hr (by rfl) gR FR.kp kbR pass0 (pa_cons (pv 0) pa_nil) (pk_cons (pv 1) (pk_cons (pv 2) pk_nil))))
          (blkOk_by (N := nRankOf) (sc := defScope sRankOf) (by decide +kernel)) (fun _ _ _ _ _ => pg_tup rfl (pgs_cons (pg_name (i := 4) scRankOf.nd rfl (.inl rfl)) (pgs_cons (pg_name (i := 5) scRankOf.nd rfl (.inl rfl)) (pgs_cons (pg_name (i := 6) scRankOf.nd rfl (.inl rfl)) pgs_nil)))) (fun _ _ _ _ _ => pts_nil) (fun _ _ _ _ _ => (pv 4)))
      (pss_cons (ps_if (pt_cmpR op_eq (pe_lenSetD (by rfl) glen (by rfl) gset (pv 3)) pe_int (nomark _)) (pss_one (ps_ret (pe_ix ix_list (pv 3) pe_int (fun _ _ => rfl)))) pss_nil)
      (pss_one (ps_ret pe_non)))), ?_⟩
  refine ⟨fun σ H1 => ∃ l : Addr, σ = [some (.ref d), some (.int a), some (.int b), some (.ref l), none, none, none] ∧ Same H H1 ∧ H1 l = some (.lst ((ranksL ks N a b).map V.int)), ?_, fun σ H1 hh => ?_⟩
  · refine ⟨_, rfl, _, rfl, _, rfl, rfl, rfl, d, a, b, ks, fv, N, D, rfl, hL, hB, a0, a8, b0, b8, fun l us H1 s1 hl hl1 hR => ?_⟩
    have lu := hR.len
    have lr := rowsL_len (ks := ks) (N := N) a0 a8 b0 b8
    refine ⟨l, rfl, ⟨_, SqL.of hl1⟩, fun D' hD' => lc_list (xs := us.map V.ref) (fun i G => Same H1 G ∧ G D' = some (.lst (((ranksL ks N a b).take i).map V.int))) ⟨same_upd hD', upd_same⟩ (fun i G _ hP => SqL.of (hP.1 _ _ hl1)) (fun i x G hx hP => ?_) (fun G hP => ?_)⟩
    · obtain ⟨sG, hG⟩ := hP
      rw [List.getElem?_map] at hx
      obtain ⟨u, hu', rfl⟩ := Option.map_eq_some_iff.mp hx
      have il : i < us.length := (List.getElem?_eq_some_iff.mp hu').1
      obtain ⟨y, hy⟩ : ∃ y, (rowsL ks N a b (kqL a b (mAB a b + 1)))[i]? = some y := ⟨_, List.getElem?_eq_getElem (by omega)⟩
      obtain ⟨z, hz, _⟩ := hR.at_ i u y hu' hy
      have tk : (ranksL ks N a b).take (i + 1) = (ranksL ks N a b).take i ++ [y.1.1] := by
        unfold ranksL
        rw [List.take_add_one, List.getElem?_map, hy]
        rfl
      refine ⟨u, _, rfl, SqT.of (sG _ _ hz), rfl, _, _, rfl, _, _, rfl, _, _, rfl, rfl, rfl, ?_⟩
      refine ⟨_, rfl, _, hG, ?_, same_at sG hD', ?_⟩
      · rw [List.length_map]
        have := List.length_take_le' i (ranksL ks N a b)
        unfold ranksL at this ⊢
        rw [List.length_map] at this
        exact Nat.lt_of_le_of_lt (m := 225) (by omega) (by decide)
      · rw [upd_same, tk, List.map_append]
        rfl
    · obtain ⟨sG, hG⟩ := hP
      have e : us.length = (ranksL ks N a b).length := by
        unfold ranksL
        rw [List.length_map, lu]
      rw [List.length_map, e, List.take_length] at hG
      exact ⟨D', rfl, s1.trans sG, hG⟩
  obtain ⟨l, rfl, s1, hl⟩ := hh
  have ll : (ranksL ks N a b).length ≤ 225 := by
    unfold ranksL
    rw [List.length_map]
    exact rowsL_len a0 a8 b0 b8
  refine ⟨_, rfl, l, ranksL ks N a b, rfl, SqL.of hl, by omega, ?_⟩
  have s0 := q H1 s1
  cases e : ranksL ks N a b with
  | nil =>
    rw [e] at s0
    refine ⟨rfl, _, rfl, iteD0 (ine (by rw [dedN_nil]; decide)) ?_⟩
    exact s0
  | cons n ns =>
    rw [e] at s0 hl
    refine ⟨rfl, _, rfl, ?_⟩
    by_cases z : ∀ x ∈ ns, x = n
    · refine iteD1 (congrArg V.int (by rw [dedN_one.mpr z]; rfl)) ?_
      refine ⟨_, rfl, l, _, 0, _, rfl, rfl, SqL.of hl, atI_nat (j := 0) rfl, ?_⟩
      have er : rankV (n :: ns) = .int n := if_pos (List.all_eq_true.mpr fun x hx => decide_eq_true (z x hx))
      rw [er] at s0
      exact s0
    · refine iteD0 (ine fun e' => z (dedN_one.mp (by exact_mod_cast e'))) ?_
      have er : rankV (n :: ns) = .non := if_neg fun h => z fun x hx => of_decide_eq_true (List.all_eq_true.mp h x hx)
      rw [er] at s0
      exact s0
end
end TC
namespace TC
set_option exponentiation.threshold 20000
open PySem PySem.Spec PyProof.Rows L2 TCA TCX
def nineL (a u b v c w : Int) : List Int := [a + b - c, a - b + c, b - a + c, a + u, a - u, b + v, b - v, c + w, c - w]
def upN (a u b v c w : Int) : Nat := foldF (fun x => (x / 2).toNat) (c + 1).toNat (nineL a u b v c w)
def underN (a b c : Int) : Nat := factN ((a + b + c) / 2 + 1).toNat
theorem up_under {a u b v c w : Int} (h1 : PairP a u) (h2 : PairP b v) (h3 : PairP c w) (J : JoinP a b c u v w) : upN a u b v c w * prodF (jBe a b c) = underN a b c * prodF (jAb a u b v c w) * (jCom a u b v c * jCom a u b v c) := by
  rw [com_eq h1 h2 h3 J]
  have c0 := h3.t0
  have e1 : factN (c + 1).toNat = (c + 1).toNat * factN c.toNat := by
    rw [show (c + 1).toNat = c.toNat + 1 by omega]
    rfl
  show (c + 1).toNat * factN ((a + b - c) / 2).toNat * factN ((a - b + c) / 2).toNat * factN ((b - a + c) / 2).toNat * factN ((a + u) / 2).toNat * factN ((a - u) / 2).toNat * factN ((b + v) / 2).toNat * factN ((b - v) / 2).toNat * factN ((c + w) / 2).toNat * factN ((c - w) / 2).toNat * (factN c.toNat * (factN ((a + b + c) / 2 + 1).toNat * (factN ((a + b - c) / 2).toNat * (factN ((a - b + c) / 2).toNat * (factN ((b - a + c) / 2).toNat * 1))))) =
    factN ((a + b + c) / 2 + 1).toNat * (factN (c + 1).toNat * (factN ((a + u) / 2).toNat * (factN ((a - u) / 2).toNat * (factN ((b + v) / 2).toNat * (factN ((b - v) / 2).toNat * (factN ((c + w) / 2).toNat * (factN ((c - w) / 2).toNat * 1))))))) * (factN ((a + b - c) / 2).toNat * factN ((a - b + c) / 2).toNat * factN ((b - a + c) / 2).toNat * (factN ((a + b - c) / 2).toNat * factN ((a - b + c) / 2).toNat * factN ((b - a + c) / 2).toNat))
  rw [e1]
  generalize factN ((a + b - c) / 2).toNat = x1
  generalize factN ((a - b + c) / 2).toNat = x2
  generalize factN ((b - a + c) / 2).toNat = x3
  generalize factN ((a + u) / 2).toNat = x4
  generalize factN ((a - u) / 2).toNat = x5
  generalize factN ((b + v) / 2).toNat = x6
  generalize factN ((b - v) / 2).toNat = x7
  generalize factN ((c + w) / 2).toNat = x8
  generalize factN ((c - w) / 2).toNat = x9
  generalize factN ((a + b + c) / 2 + 1).toNat = x10
  generalize factN c.toNat = x11
  generalize (c + 1).toNat = x12
  simp only [Nat.mul_one, Nat.mul_assoc, Nat.mul_left_comm, Nat.mul_comm]
theorem nine_lt {a u b v c w : Int} (h1 : PairP a u) (h2 : PairP b v) (h3 : PairP c w) (J : JoinP a b c u v w) : ∀ x ∈ nineL a u b v c w, 0 ≤ x ∧ (x / 2).toNat < 62 := by
  obtain ⟨a0, a1, a2, a3, a4⟩ := h1
  obtain ⟨b0, b1, b2, b3, b4⟩ := h2
  obtain ⟨c0, c1, c2, c3, c4⟩ := h3
  obtain ⟨k1, k2, k3, k4⟩ := canB_iff.mp J.1
  intro x hx
  unfold nineL at hx
  simp only [List.mem_cons, List.not_mem_nil, or_false] at hx
  omega
theorem up_lt {a u b v c w : Int} (h1 : PairP a u) (h2 : PairP b v) (h3 : PairP c w) (J : JoinP a b c u v w) (i : Nat) : foldF (fun x => (x / 2).toNat) (c + 1).toNat ((nineL a u b v c w).take i) < 2 ^ 2600 := by
  have c1 := h3.t1
  refine Nat.lt_of_lt_of_le (foldF_lt (B := 6) (fun x hx => (nine_lt h1 h2 h3 J x (List.mem_of_mem_take hx)).2) (by omega)) (Nat.pow_le_pow_right (by decide) ?_)
  have : ((nineL a u b v c w).take i).length ≤ 9 := by
    rw [List.length_take]
    exact Nat.min_le_right ..
  omega
theorem foldF_pos {g : Int → Nat} : ∀ {l : List Int} {m : Nat}, 0 < m → 0 < foldF g m l
  | [], _, h => h
  | x :: l, m, h => foldF_pos (l := l) (Nat.mul_pos h (fact_pos _))
/-- the law's answer and the program's are one -/
theorem two_val {a u b v c w : Int} (h1 : PairP a u) (h2 : PairP b v) (h3 : PairP c w) (J : JoinP a b c u v w) {sq fr : Nat} (hN : upN a u b v c w * underN a b c = sq * sq * fr) (hf : SqF fr) {q : Rat} (hq : q = Rat.divInt (jSum a u b v c) ((jCom a u b v c : Nat) : Int)) (r : Int) :
    (if r = (fr : Int) then Rat.divInt (sq : Int) ((underN a b c : Nat) : Int) else 0) * Rat.divInt q.num (q.den : Int) = TCR.val (joinL a u b v c w) r := by
  have la := jAb_lt h1 h2 h3
  have lb := jBe_lt h1 h2 h3
  have u0 : 0 < underN a b c := fact_pos _
  have c0 : 0 < jCom a u b v c := comK_pos _ _ _ _ _
  obtain ⟨e1, e2⟩ := root_two (fun n hn => by have := la n hn; omega) (fun n hn => by have := lb n hn; omega) u0 c0 (up_under h1 h2 h3 J) hN hf
  have e3 := both_one (W := jSum a u b v c) (botE_pos (jAb a u b v c w) (jBe a b c)) u0 c0 e2
  unfold joinL
  rw [if_pos J, val_oneQ, e1, e3, Rat.num_divInt_den, hq]
  by_cases h : r = (fr : Int)
  · rw [if_pos h, if_pos h]
  · rw [if_neg h, if_neg h, Rat.zero_mul]
section
variable {P : Program} {w : World} {K : PySem.W.Frag} {mg : Str → Option Value} {base : Heap} {f : Addr} {fd : FuncData} {C fI fQ : Addr}
/-! ### _law_two -/
def spTwo : Sp := fun vs H Q _ => ∃ a u b v c w : Int, vs = [.int a, .int u, .int b, .int v, .int c, .int w] ∧ PairP a u ∧ PairP b v ∧ PairP c w ∧
  ∀ (d : Addr) (ks : List Int) H', Same H H' → H d = none → DictAt H' d ks (TCR.val (joinL a u b v c w)) → Clear ks (TCR.val (joinL a u b v c w)) → ks.length ≤ 1 → Q (.ref d) H'
abbrev nTwo : List Str := ["_law_a", "_law_u", "_law_b", "_law_v", "_law_c", "_law_w", "_law_up", "_law_under", "_law_n", "_law_total", "_law_k", "_law_some", "_law_low_here"]
theorem scTwo : FnScope nTwo ["_law_a", "_law_u", "_law_b", "_law_v", "_law_c", "_law_w"] (defScope sTwo) := ⟨rfl, rfl, rfl, by decide +kernel, rfl, by decide +kernel, by decide +kernel⟩
set_option maxHeartbeats 0 in
theorem ok_two {fF fL fR fB : Addr} {fdF fdL fdR fdB : FuncData} (F : FnP K "_law_two" sTwo f fd) (GF : FnOk P w K mg base CX0 1 fF fdF ["_law_n"] spFactL) (bF : L2.Binds K fdF ["_law_n"] []) (kF : PySem.W.keepIn K (.ref fF) = true) (gF : mg "_law_factorial" = some (.ref fF))
    (GL : FnOk P w K mg base CX0 1 fL fdL ["_law_up", "_law_under"] spLowL) (bL : L2.Binds K fdL ["_law_up", "_law_under"] []) (kL : PySem.W.keepIn K (.ref fL) = true) (gL : mg "_law_low" = some (.ref fL))
    (GR : FnOk P w K mg base CX0 2 fR fdR ["_law_up", "_law_under"] spRooted) (bR : L2.Binds K fdR ["_law_up", "_law_under"] []) (kR : PySem.W.keepIn K (.ref fR) = true) (gR : mg "_law_rooted" = some (.ref fR))
    (GB : FnOk P w K mg base CX0 2 fB fdB ["_law_one", "_law_up", "_law_under"] spBy) (bB : L2.Binds K fdB ["_law_one", "_law_up", "_law_under"] []) (kB : PySem.W.keepIn K (.ref fB) = true) (gB : mg "_law_by" = some (.ref fB))
    (gabs : mg "abs" = none) (gmin : mg "min" = none) (grange : mg "range" = none) : FnOk P w K mg base CX0 3 f fd ["_law_a", "_law_u", "_law_b", "_law_v", "_law_c", "_law_w"] spTwo := by
  refine F.ok scTwo (fun vs H Q E h => ?_) (fun cdv Ar outer s H vs Q E' hr h => ?_)
  · obtain ⟨_, _, _, _, _, _, rfl, _⟩ := h
    rfl
  obtain ⟨a, u, b, v, c, w, rfl, P1, P2, P3, q⟩ := h
  have hr1 := hr.mono (j := 1) (by decide)
  have hr2 := hr.mono (j := 2) (by decide)
  refine ⟨_, PSs.nox (C8.pss_cut (ps_if (PW.pt (pw_or (pt_cmpR op_eq (pe_op op_mod (pe_op op_add (pe_op op_add (pv 0) (pv 2)) (pv 4)) pe_int) pe_int (nomark _)) (pw_or (pt_cmpR op_gt (pv 4) (pe_op op_add (pv 0) (pv 2)) (nomark _)) (pw_or (pt_cmpR op_lt (pv 4) (pe_callB call_abs (by rfl) gabs (by decide +kernel) (pa_cons (pe_op op_sub (pv 0) (pv 2)) pa_nil)) (nomark _)) (pw_or1 (pt_cmpR op_ne (pe_op op_add (pv 1) (pv 3)) (pv 5) (nomark _))))))) (pss_one (ps_ret pe_dnewK)) pss_nil)
      (C8.pss_cut (ps_par (i := 6) (j := 7) (by rfl) scTwo.nd rfl rfl (by decide) rfl rfl (pa_cons (pe_op op_add (pv 4) pe_int) (pa_cons (pe_call GF hr1 (by rfl) gF kF bF .nil pass0 (pa_cons (pe_op op_add (pe_op op_fdiv (pe_op op_add (pe_op op_add (pv 0) (pv 2)) (pv 4)) pe_int) pe_int) pa_nil)) pa_nil)) (by rfl))
      (C8.pss_cut (ps_for PassesOwn.never rfl (pi_tup (pe_tup (pa_cons (pe_op op_sub (pe_op op_add (pv 0) (pv 2)) (pv 4)) (pa_cons (pe_op op_add (pe_op op_sub (pv 0) (pv 2)) (pv 4)) (pa_cons (pe_op op_add (pe_op op_sub (pv 2) (pv 0)) (pv 4)) (pa_cons (pe_op op_add (pv 0) (pv 1)) (pa_cons (pe_op op_sub (pv 0) (pv 1)) (pa_cons (pe_op op_add (pv 2) (pv 3)) (pa_cons (pe_op op_sub (pv 2) (pv 3)) (pa_cons (pe_op op_add (pv 4) (pv 5)) (pa_cons (pe_op op_sub (pv 4) (pv 5)) pa_nil))))))))))) (pg_name (i := 8) scTwo.nd rfl (.inl rfl))
        (pss_one (ps_set (i := 6) scTwo.nd rfl (.inl rfl) (pe_op op_mulW (pv 6) (pe_call GF hr1 (by rfl) gF kF bF .nil pass0 (pa_cons (pe_op op_fdiv (pv 8) pe_int) pa_nil))))))
      (C8.pss_cut (ps_set (i := 9) scTwo.nd rfl (.inl rfl) (pe_tup (pa_cons pe_int (pa_cons pe_int pa_nil))))
      (C8.pss_cut (ps_for PassesOwn.never rfl (pi_range1 (by rfl) grange (pa_cons (pe_op op_add (pe_op op_fdiv (pe_op op_sub (pe_op op_add (pv 0) (pv 2)) (pv 4)) pe_int) pe_int) pa_nil)) (pg_name (i := 10) scTwo.nd rfl (.inl rfl))
        (C8.pss_cut (ps_set (i := 11) scTwo.nd rfl (.inl rfl) (pe_lst (pa_cons (pv 10) (pa_cons (pe_op op_sub (pe_op op_fdiv (pe_op op_sub (pe_op op_add (pv 0) (pv 2)) (pv 4)) pe_int) (pv 10)) (pa_cons (pe_op op_sub (pe_op op_fdiv (pe_op op_sub (pv 0) (pv 1)) pe_int) (pv 10)) (pa_cons (pe_op op_sub (pe_op op_fdiv (pe_op op_add (pv 2) (pv 3)) pe_int) (pv 10)) (pa_cons (pe_op op_add (pe_op op_fdiv (pe_op op_add (pe_op op_sub (pv 4) (pv 2)) (pv 1)) pe_int) (pv 10)) (pa_cons (pe_op op_add (pe_op op_fdiv (pe_op op_sub (pe_op op_sub (pv 4) (pv 0)) (pv 3)) pe_int) (pv 10)) pa_nil))))))))
      (pss_one (ps_if (pt_cmpR op_ge (pe_callB (cr_min rfl) (by rfl) gmin (by decide +kernel) (pa_cons (pv 11) pa_nil)) pe_int (nomark _)) (pss_cons (ps_set (i := 12) scTwo.nd rfl (.inl rfl) pe_int)
      (C8.pss_cut (ps_for PassesOwn.never rfl (pi_list (pv 11)) (pg_name (i := 8) scTwo.nd rfl (.inl rfl))
        (pss_one (ps_set (i := 12) scTwo.nd rfl (.inl rfl) (pe_op op_mulW (pv 12) (pe_call GF hr1 (by rfl) gF kF bF .nil pass0 (pa_cons (pv 8) pa_nil))))))
      (pss_one (ps_set (i := 9) scTwo.nd rfl (.inl rfl) (pe_call GL hr1 (by rfl) gL kL bL .nil pass0 (pa_cons (pe_op op_add (pe_op op_mulW (pe_ix ix_tup (pv 9) pe_int (fun _ _ => rfl)) (pv 12)) (pe_op op_mulW (pe_ix ix_tup (pv 9) pe_int (fun _ _ => rfl)) (pe_ix ix_list (pe_lst (pa_cons pe_int (pa_cons (pe_un un_neg pe_int) pa_nil))) (pe_op op_mod (pv 10) pe_int) (fun _ _ => rfl)))) (pa_cons (pe_op op_mulW (pe_ix ix_tup (pv 9) pe_int (fun _ _ => rfl)) (pv 12)) pa_nil))))))) pss_nil))))
      (pss_one (ps_ret (pe_call GB hr2 (by rfl) gB kB bB .nil pass0 (pa_cons (pe_call GR hr2 (by rfl) gR kR bR .nil pass0 (pa_cons (pv 6) (pa_cons (pv 7) pa_nil))) (pa_cons (pe_ix ix_tup (pv 9) pe_int (fun _ _ => rfl)) (pa_cons (pe_ix ix_tup (pv 9) pe_int (fun _ _ => rfl)) pa_nil))))))))))), ?_⟩
  have d2 : ∀ z : Int, CDiv z 2 := fun _ => ⟨by decide, by decide⟩
  -- where it is 0
  refine ⟨fun σ H' => σ = [some (.int a), some (.int u), some (.int b), some (.int v), some (.int c), some (.int w), none, none, none, none, none, none, none] ∧ H' = H ∧ JoinP a b c u v w, ?_, fun σ H1 hM => ?_⟩
  · have nought : ¬ JoinP a b c u v w → ∀ d, H d = none → Q (.ref d) (upd H d (.dK [])) := fun nj d hd => by
      have e : joinL a u b v c w = [] := if_neg nj
      refine q d [] _ (same_upd hd) hd ?_ (fun r hr => by cases hr) (Nat.zero_le _)
      exact ⟨[], upd_same, rfl, (fun r hr => by cases hr), List.nodup_nil, fun r _ => by rw [e]; rfl⟩
    refine ⟨_, rfl, _, rfl, a, b, rfl, rfl, _, rfl, a + b, c, rfl, rfl, a + b + c, 2, rfl, rfl, (by show (0 : Int) < 2; decide), rfl, _, rfl, ?_⟩
    rw [dec_int]
    by_cases e1 : (a + b + c) % 2 = 1
    · exact iteD1 e1 (iteT (nought fun z => by have := canB_iff.mp z.1; omega))
    refine iteD0 e1 ?_
    refine ⟨_, rfl, _, rfl, _, rfl, a, b, rfl, rfl, c, a + b, rfl, rfl, _, rfl, ?_⟩
    by_cases e2 : c > a + b
    · exact iteD1 e2 (iteT (nought fun z => by have := canB_iff.mp z.1; omega))
    refine iteD0 e2 ?_
    refine ⟨_, rfl, _, rfl, _, rfl, a, b, rfl, rfl, a - b, rfl, c, _, rfl, rfl, _, rfl, ?_⟩
    by_cases e3 : c < (if a - b < 0 then -(a - b) else a - b)
    · refine iteD1 e3 (iteT (nought fun z => ?_))
      have := canB_iff.mp z.1
      split at e3 <;> omega
    refine iteD0 e3 ?_
    refine ⟨_, rfl, _, rfl, u, v, rfl, rfl, _, rfl, rfl, _, rfl, ?_⟩
    by_cases e4 : u + v = w
    · refine iteNS (congrArg V.int e4) ⟨rfl, rfl, canB_iff.mpr ?_, e4⟩
      split at e3 <;> omega
    · exact iteNT (ine e4) (nought fun z => e4 z.2)
  obtain ⟨rfl, eH1, J⟩ := hM
  replace eH1 := eH1.symm
  subst eH1
  have T := tmp_of P1 P2 P3 J
  have bnd : 0 ≤ a ∧ a ≤ 40 ∧ 0 ≤ b ∧ b ≤ 40 ∧ 0 ≤ c ∧ c ≤ 40 := ⟨P1.t0, P1.t1, P2.t0, P2.t1, P3.t0, P3.t1⟩
  obtain ⟨b1, b2, b3, b4, b5, b6⟩ := bnd
  -- up, under
  refine ⟨fun σ H' => σ = [some (.int a), some (.int u), some (.int b), some (.int v), some (.int c), some (.int w), some (.int (((c + 1).toNat : Nat) : Int)), some (.int ((underN a b c : Nat) : Int)), none, none, none, none, none] ∧ H' = H, ?_, fun σ H1 hM => ?_⟩
  · have e1 : (((c + 1).toNat : Nat) : Int) = c + 1 := by omega
    refine ⟨_, rfl, c, 1, rfl, rfl, _, rfl, _, rfl, a, b, rfl, rfl, _, rfl, a + b, c, rfl, rfl, a + b + c, 2, rfl, rfl, d2 _, (a + b + c) / 2, 1, rfl, rfl, ((a + b + c) / 2 + 1).toNat, congrArg (fun z => [V.int z]) (by omega), by omega, _, _, rfl, ?_, rfl⟩
    rw [e1]
    rfl
  obtain ⟨rfl, eH1⟩ := hM
  replace eH1 := eH1.symm
  subst eH1
  have n9 := nine_lt P1 P2 P3 J
  -- the nine factorials
  refine ⟨fun σ H' => ∃ v8 : Option V, σ = [some (.int a), some (.int u), some (.int b), some (.int v), some (.int c), some (.int w), some (.int ((upN a u b v c w : Nat) : Int)), some (.int ((underN a b c : Nat) : Int)), v8, none, none, none, none] ∧ Same H H', ?_, fun σ H2 hM => ?_⟩
  · refine ⟨_, rfl, _, rfl, a, b, rfl, rfl, _, rfl, a + b, c, rfl, rfl, _, rfl, _, rfl, a, b, rfl, rfl, _, rfl, a - b, c, rfl, rfl, _, rfl, _, rfl, b, a, rfl, rfl, _, rfl, b - a, c, rfl, rfl, _, rfl, _, rfl, a, u, rfl, rfl, _, rfl, _, rfl, a, u, rfl, rfl, _, rfl, _, rfl, b, v, rfl, rfl, _, rfl, _, rfl, b, v, rfl, rfl, _, rfl, _, rfl, c, w, rfl, rfl, _, rfl, _, rfl, c, w, rfl, rfl, by show 9 ≤ sizeLine; decide, fun t ht => ?_⟩
    have s2 := same_upd (o := .tup ((nineL a u b v c w).map V.int)) ht
    refine ⟨t, rfl, ⟨_, SqT.of upd_same⟩, for_tup (xs := (nineL a u b v c w).map V.int) (fun i σ H' => ∃ v8 : Option V, σ = [some (.int a), some (.int u), some (.int b), some (.int v), some (.int c), some (.int w), some (.int ((foldF (fun x => (x / 2).toNat) (c + 1).toNat ((nineL a u b v c w).take i) : Nat) : Int)), some (.int ((underN a b c : Nat) : Int)), v8, none, none, none, none] ∧ H' = upd H t (.tup ((nineL a u b v c w).map V.int))) ⟨none, rfl, rfl⟩ (fun i σ H' _ hP => ?_) (fun i x σ H' hx hP => ?_) (fun σ H' hP => ?_)⟩
    · obtain ⟨_, _, rfl⟩ := hP
      exact SqT.of upd_same
    · obtain ⟨v8, rfl, rfl⟩ := hP
      obtain ⟨n, hn, rfl⟩ := ints_at hx
      obtain ⟨n0, n1⟩ := n9 n (List.mem_of_getElem? hn)
      have ul := up_lt P1 P2 P3 J i
      refine ⟨_, rfl, _, rfl, n, 2, rfl, rfl, d2 _, (n / 2).toNat, congrArg (fun z => [V.int z]) (by omega), by omega, _, _, rfl, rfl, cmulw (nat_bits ul) (nat_bits (fact_lt _ n1)) (by decide) (by decide) (by decide), some (.int n), ?_, rfl⟩
      rw [take_atI hn, foldF_snoc, Int.natCast_mul]
      rfl
    · obtain ⟨v8, rfl, rfl⟩ := hP
      exact ⟨v8, rfl, s2⟩
  obtain ⟨v8, rfl, s2⟩ := hM
  -- total
  refine ⟨fun σ H' => ∃ T0 : Addr, σ = [some (.int a), some (.int u), some (.int b), some (.int v), some (.int c), some (.int w), some (.int ((upN a u b v c w : Nat) : Int)), some (.int ((underN a b c : Nat) : Int)), v8, some (.ref T0), none, none, none] ∧ Same H H' ∧ H' T0 = some (fraV 0), ?_, fun σ H3 hM => ?_⟩
  · exact ⟨by show 2 ≤ sizeLine; decide, fun T0 hT0 => ⟨T0, rfl, s2.trans (same_upd hT0), upd_same⟩⟩
  obtain ⟨T0, rfl, s3, hT0⟩ := hM
  have com0 : 0 < jCom a u b v c := comK_pos _ _ _ _ _
  have cl : jCom a u b v c < 2 ^ 840 := comK_lt (by have := T.lA; have := T.s1; omega) (by have := T.lD; have := T.s1; omega) (by have := T.lE; have := T.s1; omega)
  have sumb : ∀ k, k ≤ 100 → (sumK (jT a u b v c) k).natAbs < 2 ^ 900 := fun k hk => by
    refine Nat.lt_of_le_of_lt (sumK_le (f := jT a u b v c) (tmK_le _ _ _ _ _) k) ?_
    have y : k < 2 ^ 60 := Nat.lt_of_le_of_lt hk (by decide)
    have x := Nat.mul_lt_mul'' y cl
    rw [← Nat.pow_add] at x
    exact x
  have qn : ∀ k, k ≤ 100 → (Rat.divInt (sumK (jT a u b v c) k) ((jCom a u b v c : Nat) : Int)).num.natAbs < 2 ^ 900 := fun k hk => by
    have lo := (TCM.low_abs (sumK (jT a u b v c) k) ((jCom a u b v c : Nat) : Int) (by omega)).1
    rw [TCR.low_rat _ _ (by omega)] at lo
    exact Nat.lt_of_le_of_lt lo (sumb k hk)
  have qd : ∀ k, (Rat.divInt (sumK (jT a u b v c) k) ((jCom a u b v c : Nat) : Int)).den < 2 ^ 840 := fun k => Nat.lt_of_le_of_lt (Nat.le_of_dvd com0 (den_divInt com0)) cl
  have hA : (a + b - c) / 2 = (jA a b c : Int) := T.eA
  have hB : (a - u) / 2 = (jB a u : Int) := T.eB
  have hC : (b + v) / 2 = (jC b v : Int) := T.eC
  have hD : (c - b + u) / 2 = jD b u c := rfl
  have hE : (c - a - v) / 2 = jE a v c := rfl
  have lA := T.lA
  have lB := T.lB
  have lC := T.lC
  have lD := T.lD
  have lE := T.lE
  have S1 := T.s1
  refine ⟨fun σ H' => ∃ (v8 v10 v11 v12 : Option V) (T1 : Addr), σ = [some (.int a), some (.int u), some (.int b), some (.int v), some (.int c), some (.int w), some (.int ((upN a u b v c w : Nat) : Int)), some (.int ((underN a b c : Nat) : Int)), v8, some (.ref T1), v10, v11, v12] ∧ Same H H' ∧ H' T1 = some (fraV (Rat.divInt (jSum a u b v c) ((jCom a u b v c : Nat) : Int))), ?_, fun σ H4 hM => ?_⟩
  · refine ⟨_, rfl, _, rfl, a, b, rfl, rfl, _, rfl, a + b, c, rfl, rfl, a + b - c, 2, rfl, rfl, d2 _, (a + b - c) / 2, 1, rfl, rfl, (a + b - c) / 2 + 1, rfl, by omega, by omega, ?_⟩
    refine for_range (n := ((a + b - c) / 2 + 1).toNat) (fun k σ H' => ∃ (v8 v10 v11 v12 : Option V) (T1 : Addr), σ = [some (.int a), some (.int u), some (.int b), some (.int v), some (.int c), some (.int w), some (.int ((upN a u b v c w : Nat) : Int)), some (.int ((underN a b c : Nat) : Int)), v8, some (.ref T1), v10, v11, v12] ∧ Same H H' ∧ H' T1 = some (fraV (Rat.divInt (sumK (jT a u b v c) k) ((jCom a u b v c : Nat) : Int))))
      ⟨v8, none, none, none, T0, rfl, s3, by rw [show sumK (jT a u b v c) 0 = 0 from rfl, Rat.zero_divInt]; exact hT0⟩ (fun k σ H' hk hP => ?_) (fun σ H' hP => ?_)
    rotate_left
    · obtain ⟨v8, v10, v11, v12, T1, rfl, sm, hT1⟩ := hP
      refine ⟨v8, v10, v11, v12, T1, rfl, sm, ?_⟩
      rw [hT1, show ((a + b - c) / 2 + 1).toNat = jA a b c + 1 by omega]
      rfl
    obtain ⟨v8, v10, v11, v12, T1, rfl, sm, hT1⟩ := hP
    have kA : k ≤ jA a b c := by omega
    rw [Int.zero_add]
    refine ⟨fun σ G => ∃ l3 : Addr, σ = [some (.int a), some (.int u), some (.int b), some (.int v), some (.int c), some (.int w), some (.int ((upN a u b v c w : Nat) : Int)), some (.int ((underN a b c : Nat) : Int)), v8, some (.ref T1), some (.int (k : Int)), some (.ref l3), v12] ∧ Same H' G ∧ G l3 = some (.lst ([(k : Int), (jA a b c : Int) - k, (jB a u : Int) - k, (jC b v : Int) - k, jD b u c + k, jE a v c + k].map V.int)), ?_, fun σ G hM => ?_⟩
    · refine ⟨_, rfl, _, rfl, _, rfl, a, b, rfl, rfl, _, rfl, a + b, c, rfl, rfl, a + b - c, 2, rfl, rfl, d2 _, _, rfl, (a + b - c) / 2, k, rfl, rfl, _, rfl, _, rfl, a, u, rfl, rfl, a - u, 2, rfl, rfl, d2 _, _, rfl, (a - u) / 2, k, rfl, rfl, _, rfl, _, rfl, b, v, rfl, rfl, b + v, 2, rfl, rfl, d2 _, _, rfl, (b + v) / 2, k, rfl, rfl, _, rfl, _, rfl, c, b, rfl, rfl, _, rfl, c - b, u, rfl, rfl, c - b + u, 2, rfl, rfl, d2 _, _, rfl, (c - b + u) / 2, k, rfl, rfl, _, rfl, _, rfl, c, a, rfl, rfl, _, rfl, c - a, v, rfl, rfl, c - a - v, 2, rfl, rfl, d2 _, _, rfl, (c - a - v) / 2, k, rfl, rfl, by show 6 ≤ sizeLine; decide, fun l3 hl3 => ?_⟩
      refine ⟨l3, rfl, same_upd hl3, ?_⟩
      rw [upd_same, ← hA, ← hB, ← hC]
      rfl
    obtain ⟨l3, rfl, sG, hl3⟩ := hM
    have hTG := sG _ _ hT1
    have sHG := sm.trans sG
    refine ⟨_, rfl, l3, _, rfl, SqL.of hl3, by show 0 < 6; decide, fun m hm hmin => ?_⟩
    have m1 := hmin (k : Int) (by simp)
    have m2 := hmin ((jA a b c : Int) - k) (by simp)
    have m3 := hmin ((jB a u : Int) - k) (by simp)
    have m4 := hmin ((jC b v : Int) - k) (by simp)
    have m5 := hmin (jD b u c + k) (by simp)
    have m6 := hmin (jE a v c + k) (by simp)
    have mc : m = (k : Int) ∨ m = (jA a b c : Int) - k ∨ m = (jB a u : Int) - k ∨ m = (jC b v : Int) - k ∨ m = jD b u c + k ∨ m = jE a v c + k := by simpa using hm
    have ok : okK (jA a b c) (jB a u) (jC b v) (jD b u c) (jE a v c) k = true ↔ m ≥ 0 := by
      unfold okK
      rw [decide_eq_true_eq]
      omega
    refine ⟨m, 0, rfl, rfl, _, rfl, ?_⟩
    by_cases m0 : m ≥ 0
    rotate_left
    · refine iteD0 m0 ?_
      refine ⟨_, _, _, _, T1, rfl, sHG, ?_⟩
      have e : sumK (jT a u b v c) (k + 1) = sumK (jT a u b v c) k := total_skip fun z => m0 (ok.mp z)
      rw [e]
      exact hTG
    refine iteD1 m0 ?_
    have hk' := ok.mpr m0
    have bp := botK_pos (jA a b c) (jB a u) (jC b v) (jD b u c) (jE a v c) k
    have bd : botK (jA a b c) (jB a u) (jC b v) (jD b u c) (jE a v c) k < 2 ^ 840 := Nat.lt_of_le_of_lt (Nat.le_of_dvd com0 (botK_dvd hk')) cl
    refine ⟨fun σ G' => ∃ v8 : Option V, σ = [some (.int a), some (.int u), some (.int b), some (.int v), some (.int c), some (.int w), some (.int ((upN a u b v c w : Nat) : Int)), some (.int ((underN a b c : Nat) : Int)), v8, some (.ref T1), some (.int (k : Int)), some (.ref l3), some (.int ((botK (jA a b c) (jB a u) (jC b v) (jD b u c) (jE a v c) k : Nat) : Int))] ∧ G' = G, ?_, fun σ G' hM => ?_⟩
    · refine ⟨_, rfl, l3, rfl, ⟨_, SqL.of hl3⟩, for_list (xs := [(k : Int), (jA a b c : Int) - k, (jB a u : Int) - k, (jC b v : Int) - k, jD b u c + k, jE a v c + k].map V.int) (fun j σ G' => ∃ v8 : Option V, σ = [some (.int a), some (.int u), some (.int b), some (.int v), some (.int c), some (.int w), some (.int ((upN a u b v c w : Nat) : Int)), some (.int ((underN a b c : Nat) : Int)), v8, some (.ref T1), some (.int (k : Int)), some (.ref l3), some (.int ((foldF Int.toNat 1 ([(k : Int), (jA a b c : Int) - k, (jB a u : Int) - k, (jC b v : Int) - k, jD b u c + k, jE a v c + k].take j) : Nat) : Int))] ∧ G' = G) ⟨v8, rfl, rfl⟩ (fun j σ G' _ hP => ?_) (fun j x σ G' hx hP => ?_) (fun σ G' hP => ?_)⟩
      · obtain ⟨_, _, rfl⟩ := hP
        exact SqL.of hl3
      · obtain ⟨v8, rfl, rfl⟩ := hP
        obtain ⟨n, hn, rfl⟩ := ints_at hx
        have six : ∀ x ∈ [(k : Int), (jA a b c : Int) - k, (jB a u : Int) - k, (jC b v : Int) - k, jD b u c + k, jE a v c + k], 0 ≤ x ∧ x.toNat < 62 := fun x hx => by
          simp only [List.mem_cons, List.not_mem_nil, or_false] at hx
          omega
        obtain ⟨n0, n1⟩ := six n (List.mem_of_getElem? hn)
        have fl : foldF Int.toNat 1 ([(k : Int), (jA a b c : Int) - k, (jB a u : Int) - k, (jC b v : Int) - k, jD b u c + k, jE a v c + k].take j) < 2 ^ 2000 := by
          refine Nat.lt_of_lt_of_le (foldF_lt (B := 1) (fun x hx => (six x (List.mem_of_mem_take hx)).2) (by decide)) (Nat.pow_le_pow_right (by decide) ?_)
          have : ([(k : Int), (jA a b c : Int) - k, (jB a u : Int) - k, (jC b v : Int) - k, jD b u c + k, jE a v c + k].take j).length ≤ 6 := by
            rw [List.length_take]
            exact Nat.min_le_right ..
          omega
        refine ⟨_, rfl, _, rfl, n.toNat, congrArg (fun z => [V.int z]) (by omega), by omega, _, _, rfl, rfl, cmulw (nat_bits fl) (nat_bits (fact_lt _ n1)) (by decide) (by decide) (by decide), some (.int n), ?_, rfl⟩
        rw [take_atI hn, foldF_snoc, Int.natCast_mul]
        rfl
      · obtain ⟨v8, rfl, rfl⟩ := hP
        refine ⟨v8, ?_, rfl⟩
        have e : foldF Int.toNat 1 [(k : Int), (jA a b c : Int) - k, (jB a u : Int) - k, (jC b v : Int) - k, jD b u c + k, jE a v c + k] = botK (jA a b c) (jB a u) (jC b v) (jD b u c) (jE a v c) k := by
          show 1 * factN (k : Int).toNat * factN ((jA a b c : Int) - k).toNat * factN ((jB a u : Int) - k).toNat * factN ((jC b v : Int) - k).toNat * factN (jD b u c + k).toNat * factN (jE a v c + k).toNat = _
          unfold botK
          rw [Nat.one_mul, Int.toNat_natCast, show ((jA a b c : Int) - k).toNat = jA a b c - k by omega, show ((jB a u : Int) - k).toNat = jB a u - k by omega, show ((jC b v : Int) - k).toNat = jC b v - k by omega]
        rw [← e]
        rfl
    obtain ⟨w8, rfl, eG⟩ := hM
    replace eG := eG.symm
    subst eG
    obtain ⟨Q0, eQ⟩ : ∃ Q0 : Rat, Rat.divInt (sumK (jT a u b v c) k) ((jCom a u b v c : Nat) : Int) = Q0 := ⟨_, rfl⟩
    have zn : Q0.num.natAbs < 2 ^ 900 := by rw [← eQ]; exact qn k (by omega)
    have zd : ((Q0.den : Nat) : Int).natAbs < 2 ^ 840 := by rw [Int.natAbs_natCast, ← eQ]; exact qd k
    rw [eQ] at hTG
    refine ⟨_, rfl, T1, _, 0, _, rfl, rfl, SqT.of hTG, atI_nat (j := 0) rfl, _, rfl, Q0.num, _, rfl, rfl, cmulw zn (nat_bits bd) (by decide) (by decide) (by decide), _, rfl, T1, _, 1, _, rfl, rfl, SqT.of hTG, atI_nat (j := 1) rfl, 1, rfl, by show 2 ≤ sizeLine; decide, fun l4 hl4 => ?_⟩
    have s6 := same_upd (o := .lst [V.int 1, V.int (-1)]) hl4
    have hsg : atI [V.int 1, V.int (-1)] ((k : Int) % 2) = some (.int (sgK k)) := by
      unfold sgK
      by_cases z : k % 2 = 1
      · rw [if_pos z, show ((k : Int) % 2) = ((1 : Nat) : Int) by omega]
        exact atI_nat (j := 1) rfl
      · rw [if_neg z, show ((k : Int) % 2) = ((0 : Nat) : Int) by omega]
        exact atI_nat (j := 0) rfl
    have zs : (sgK k).natAbs < 2 ^ 2 := by
      unfold sgK
      split <;> decide
    refine ⟨_, rfl, (k : Int), 2, rfl, rfl, (by show (0 : Int) < 2; decide), l4, _, _, _, rfl, rfl, SqL.of upd_same, hsg, ((Q0.den : Nat) : Int), sgK k, rfl, rfl, cmulw zd zs (by decide) (by decide) (by decide), _, _, rfl, rfl, _, rfl, T1, _, 1, _, rfl, rfl, SqT.of (s6 _ _ hTG), atI_nat (j := 1) rfl, _, rfl, ((Q0.den : Nat) : Int), _, rfl, rfl, cmulw zd (nat_bits bd) (by decide) (by decide) (by decide), ?_⟩
    have d0 := Q0.den_pos
    have dne : ((Q0.den : Nat) : Int) * ((botK (jA a b c) (jB a u) (jC b v) (jD b u c) (jE a v c) k : Nat) : Int) ≠ 0 := Int.mul_ne_zero (by omega) (by omega)
    refine ⟨_, _, 840 + 840, rfl, dne, wide_lt zd (nat_bits bd), by decide, by decide, fun T2 hT2 => ?_⟩
    refine ⟨w8, some (.int (k : Int)), some (.ref l3), _, T2, rfl, (sHG.trans s6).trans (same_upd hT2), ?_⟩
    have ts := total_step (k := k) hk' (q := Q0) eQ.symm
    have e2 : Rat.divInt (Q0.num * ((botK (jA a b c) (jB a u) (jC b v) (jD b u c) (jE a v c) k : Nat) : Int) + ((Q0.den : Nat) : Int) * sgK k) (((Q0.den : Nat) : Int) * ((botK (jA a b c) (jB a u) (jC b v) (jD b u c) (jE a v c) k : Nat) : Int)) = Rat.divInt (sumK (jT a u b v c) (k + 1)) ((jCom a u b v c : Nat) : Int) := ts
    rw [upd_same]
    show some (HO.tup [.int (TCM.lowL (Q0.num * ((botK (jA a b c) (jB a u) (jC b v) (jD b u c) (jE a v c) k : Nat) : Int) + ((Q0.den : Nat) : Int) * sgK k) (((Q0.den : Nat) : Int) * ((botK (jA a b c) (jB a u) (jC b v) (jD b u c) (jE a v c) k : Nat) : Int))).1, .int (TCM.lowL (Q0.num * ((botK (jA a b c) (jB a u) (jC b v) (jD b u c) (jE a v c) k : Nat) : Int) + ((Q0.den : Nat) : Int) * sgK k) (((Q0.den : Nat) : Int) * ((botK (jA a b c) (jB a u) (jC b v) (jD b u c) (jE a v c) k : Nat) : Int))).2]) = _
    rw [TCR.lowL_rat _ _ dne, e2]
    rfl
  obtain ⟨x8, v10, v11, v12, T1, rfl, s4, hT1⟩ := hM
  obtain ⟨Q0, eQ⟩ : ∃ Q0 : Rat, Rat.divInt (jSum a u b v c) ((jCom a u b v c : Nat) : Int) = Q0 := ⟨_, rfl⟩
  have zn : Q0.num.natAbs < 2 ^ 900 := by rw [← eQ]; exact qn (jA a b c + 1) (by omega)
  have zd : ((Q0.den : Nat) : Int).natAbs < 2 ^ 840 := by rw [Int.natAbs_natCast, ← eQ]; exact qd (jA a b c + 1)
  rw [eQ] at hT1
  have ul : upN a u b v c w < 2 ^ 2600 := up_lt P1 P2 P3 J 9
  have up0 : 0 < upN a u b v c w := foldF_pos (by omega)
  have un0 : 0 < underN a b c := fact_pos _
  have unl : underN a b c < 2 ^ 280 := fact_lt _ (by omega)
  refine ⟨_, rfl, _, rfl, upN a u b v c w, underN a b c, rfl, up0, un0, Nat.lt_of_lt_of_le ul (Nat.pow_le_pow_right (by decide) (by decide)), Nat.lt_of_lt_of_le unl (Nat.pow_le_pow_right (by decide) (by decide)), fun sq fr d Td H5 _ hN hf hs s5 hd hTd => ?_⟩
  have hT5 := s5 _ _ hT1
  have d0 := Q0.den_pos
  have sql : sq < 2 ^ 3000 := by
    have z1 : upN a u b v c w * underN a b c < 2 ^ 3000 := by
      have z := Nat.mul_lt_mul'' ul unl
      rw [← Nat.pow_add] at z
      exact Nat.lt_of_lt_of_le z (Nat.pow_le_pow_right (by decide) (by decide))
    refine Nat.lt_of_le_of_lt (Nat.le_of_dvd (Nat.mul_pos up0 un0) ⟨sq * fr, by rw [hN, Nat.mul_assoc]⟩) z1
  have une : ((underN a b c : Nat) : Int) ≠ 0 := by omega
  have hdict : DictAt H5 d [(fr : Int)] (fun r => if r = (fr : Int) then Rat.divInt (sq : Int) ((underN a b c : Nat) : Int) else 0) := by
    refine ⟨_, hd, rfl, fun r hr => ?_, by simp, fun r hr => if_neg fun z => hr (List.mem_singleton.mpr z)⟩
    rw [List.mem_singleton.mp hr]
    refine ⟨Td, valV_pos rfl, ?_⟩
    rw [hTd, TCR.lowL_rat _ _ une]
    show _ = some (fraV (if (fr : Int) = (fr : Int) then Rat.divInt (sq : Int) ((underN a b c : Nat) : Int) else 0))
    rw [if_pos rfl]
    rfl
  have big : ∀ n, n < 2 ^ 900 → n < 2 ^ 3000 := fun n h => Nat.lt_of_lt_of_le h (Nat.pow_le_pow_right (by decide) (by decide))
  refine ⟨_, rfl, T1, _, 0, _, rfl, rfl, SqT.of hT5, atI_nat (j := 0) rfl, _, rfl, T1, _, 1, _, rfl, rfl, SqT.of hT5, atI_nat (j := 1) rfl, d, [(fr : Int)], _, Q0.num, ((Q0.den : Nat) : Int), 3000, rfl, hdict, fun r => ?_, by omega, big _ zn, Nat.lt_of_lt_of_le zd (Nat.pow_le_pow_right (by decide) (by decide)), by decide, by decide, by show 1 ≤ 60; decide, fun d' ks H6 s6 hd' hD cD lD' sub => ?_⟩
  · show TCR.Sz 3000 (if r = (fr : Int) then Rat.divInt (sq : Int) ((underN a b c : Nat) : Int) else 0)
    by_cases h : r = (fr : Int)
    · rw [if_pos h]
      exact TCR.Sz.divInt une (nat_bits sql) (Nat.lt_of_lt_of_le (nat_bits unl) (Nat.pow_le_pow_right (by decide) (by decide)))
    · rw [if_neg h]
      exact TCR.Sz.zero (by decide)
  have ev := two_val P1 P2 P3 J hN hf eQ.symm
  have ef : (fun r => (if r = (fr : Int) then Rat.divInt (sq : Int) ((underN a b c : Nat) : Int) else 0) * Rat.divInt Q0.num ((Q0.den : Nat) : Int)) = TCR.val (joinL a u b v c w) := funext ev
  have hD' : DictAt H6 d' ks (fun r => (if r = (fr : Int) then Rat.divInt (sq : Int) ((underN a b c : Nat) : Int) else 0) * Rat.divInt Q0.num ((Q0.den : Nat) : Int)) := hD
  have cD' : Clear ks (fun r => (if r = (fr : Int) then Rat.divInt (sq : Int) ((underN a b c : Nat) : Int) else 0) * Rat.divInt Q0.num ((Q0.den : Nat) : Int)) := cD
  rw [ef] at hD' cD'
  exact q d' ks H6 ((s4.trans s5).trans s6) ((s4.trans s5).free hd') hD' cD' lD'
end
end TC
namespace TC
set_option exponentiation.threshold 20000
open PySem PySem.Spec PyProof.Rows L2 TCA TCX
/-! ### K60LG: _law_linking -/
theorem DictAt.updT {H : Hp} {d x : Addr} {o : HO} {kvs : List (List Key × V)} {ks : List Int} {g : Int → Rat} (hd : H d = some (.dT kvs)) (h : DictAt H x ks g) : DictAt (upd H d o) x ks g := by
  obtain ⟨kv, h1, h2, h3, h4⟩ := h
  refine ⟨kv, by rw [upd_ne fun e => by rw [e, hd] at h1; cases h1]; exact h1, h2, fun r hr => ?_, h4⟩
  obtain ⟨u, a, b⟩ := h3 r hr
  exact ⟨u, a, by rw [upd_ne fun e => by rw [e, hd] at b; cases b]; exact b⟩
theorem NumAt.updT {C : Addr} {H : Hp} {d x : Addr} {o : HO} {kvs : List (List Key × V)} {L : List Part} (hd : H d = some (.dT kvs)) (h : NumAt C H x L) : NumAt C (upd H d o) x L := h.upd0 hd (fun xs z => by cases z) (fun c dx fs z => by cases z)
theorem pen_ne {H : Hp} {p c b : Addr} {ms : List Int} {n : Int} {o : HO} (h : PenAt H p c ms n) (e : H b = some o) (ho : ∀ xs, o ≠ .lst xs) : b ≠ p := fun z => by
  obtain ⟨left, h1, _⟩ := h
  rw [z, h1] at e
  exact ho _ (Option.some.inj e).symm
theorem DictAt.but {H H' : Hp} {p c d : Addr} {ms : List Int} {n : Int} {ks : List Int} {g : Int → Rat} (sb : SameBut p H H') (hp : PenAt H p c ms n) (h : DictAt H d ks g) : DictAt H' d ks g := by
  obtain ⟨kvs, h1, h2, h3, h4, h5⟩ := h
  refine ⟨kvs, sb _ _ (pen_ne hp h1 fun xs e => by cases e) h1, h2, fun r hr => ?_, h4, h5⟩
  obtain ⟨u, u1, u2⟩ := h3 r hr
  exact ⟨u, u1, sb _ _ (pen_ne hp u2 fun xs e => by cases e) u2⟩
theorem Refs.but {H H' : Hp} {p c : Addr} {ms : List Int} {n : Int} (sb : SameBut p H H') (hp : PenAt H p c ms n) : ∀ {us : List Addr} {L : List Part}, Refs H us L → Refs H' us L
  | [], [], _ => trivial
  | _ :: _, _ :: _, h => ⟨sb _ _ (pen_ne hp h.1 fun xs e => by cases e) h.1, Refs.but sb hp h.2⟩
  | [], _ :: _, h => h
  | _ :: _, [], h => h
theorem NumAt.but {C : Addr} {H H' : Hp} {p c x : Addr} {ms : List Int} {n : Int} {L : List Part} (sb : SameBut p H H') (hp : PenAt H p c ms n) (h : NumAt C H x L) : NumAt C H' x L := by
  obtain ⟨dx, q, h1, us, h2, h3⟩ := h
  exact ⟨dx, q, sb _ _ (pen_ne hp h1 fun xs e => by cases e) h1, us, sb _ _ (pen_ne hp h2 fun xs e => by cases e) h2, h3.but sb hp⟩
theorem LnkAt.but {C : Addr} {H H' : Hp} {p c d : Addr} {ms : List Int} {n : Int} {a b : Int} {ks : List (Int × Int)} {fv : Int × Int → V} {N : Int × Int → List Part} (sb : SameBut p H H') (hp : PenAt H p c ms n) (h : LnkAt C H d a b ks fv N) : LnkAt C H' d a b ks fv N := ⟨sb _ _ (fun z => by
  obtain ⟨l, h1, _⟩ := hp
  rw [← z, h.at_] at h1
  cases h1) h.at_, h.nd, h.off, fun x hx => by
  obtain ⟨y, e, z⟩ := h.num x hx
  exact ⟨y, e, z.but sb hp⟩⟩
/-- the same numbers as dicts -/
structure SmkAt (H : Hp) (d : Addr) (ks : List (Int × Int)) (fs : Int × Int → V) (N : Int × Int → List Part) : Prop where
  at_ : H d = some (.dT (entT kP ks fs))
  v : ∀ k ∈ ks, ∃ x kr, fs k = .ref x ∧ DictAt H x kr (TCR.val (N k)) ∧ Clear kr (TCR.val (N k)) ∧ kr.length ≤ 1
theorem SmkAt.same {H H' : Hp} {d : Addr} {ks : List (Int × Int)} {fs : Int × Int → V} {N : Int × Int → List Part} (h : SmkAt H d ks fs N) (s : Same H H') : SmkAt H' d ks fs N := ⟨s _ _ h.at_, fun k hk => by
  obtain ⟨x, kr, e, a, b, c⟩ := h.v k hk
  exact ⟨x, kr, e, a.same s, b, c⟩⟩
theorem SmkAt.but {H H' : Hp} {p c d : Addr} {ms : List Int} {n : Int} {ks : List (Int × Int)} {fs : Int × Int → V} {N : Int × Int → List Part} (sb : SameBut p H H') (hp : PenAt H p c ms n) (h : SmkAt H d ks fs N) : SmkAt H' d ks fs N := ⟨sb _ _ (fun z => by
  obtain ⟨l, h1, _⟩ := hp
  rw [← z, h.at_] at h1
  cases h1) h.at_, fun k hk => by
  obtain ⟨x, kr, e, a, b, c⟩ := h.v k hk
  exact ⟨x, kr, e, a.but sb hp, b, c⟩⟩
/-- a linking told twice -/
structure LkP (C : Addr) (H : Hp) (dS dN : Addr) (a b : Int) (ks : List (Int × Int)) (fs fv : Int × Int → V) (N : Int × Int → List Part) (D : Nat) : Prop where
  s : SmkAt H dS ks fs N
  n : LnkAt C H dN a b ks fv N
  ne : dS ≠ dN
theorem LkP.same {C : Addr} {H H' : Hp} {dS dN : Addr} {a b : Int} {ks : List (Int × Int)} {fs fv : Int × Int → V} {N : Int × Int → List Part} {D : Nat} (h : LkP C H dS dN a b ks fs fv N D) (s : Same H H') : LkP C H' dS dN a b ks fs fv N D := ⟨h.s.same s, h.n.same s, h.ne⟩
theorem LkP.but {C : Addr} {H H' : Hp} {p c dS dN : Addr} {ms : List Int} {n : Int} {a b : Int} {ks : List (Int × Int)} {fs fv : Int × Int → V} {N : Int × Int → List Part} {D : Nat} (sb : SameBut p H H') (hp : PenAt H p c ms n) (h : LkP C H dS dN a b ks fs fv N D) : LkP C H' dS dN a b ks fs fv N D := ⟨h.s.but sb hp, h.n.but sb hp, h.ne⟩
def setN (N : Int × Int → List Part) (k : Int × Int) (L : List Part) : Int × Int → List Part := fun x => if x = k then L else N x
theorem addK_new {κ : Type} [DecidableEq κ] {ks : List κ} {r : κ} (h : r ∉ ks) : addK ks r = ks ++ [r] := if_neg h
theorem entT_setVal {ks : List (Int × Int)} {f g : Int × Int → V} (h : ∀ k ∈ ks, f k = g k) : entT kP ks f = entT kP ks g := entT_congr h
theorem SmkAt.put {H : Hp} {dS x : Addr} {ks : List (Int × Int)} {fs : Int × Int → V} {N : Int × Int → List Part} {k : Int × Int} {kr : List Int} {L : List Part} (h : SmkAt H dS ks fs N) (hk : k ∉ ks)
    (hx : DictAt H x kr (TCR.val L)) (hc : Clear kr (TCR.val L)) (hl : kr.length ≤ 1) :
    SmkAt (upd H dS (.dT (entT kP (addK ks k) (setVal fs k (.ref x))))) dS (ks ++ [k]) (setVal fs k (.ref x)) (setN N k L) := by
  have hS := h.at_
  refine ⟨by rw [upd_same, addK_new hk], fun z hz => ?_⟩
  unfold setVal setN
  by_cases e : z = k
  · rw [if_pos e, if_pos e]
    exact ⟨x, kr, rfl, hx.updT hS, hc, hl⟩
  · rw [if_neg e, if_neg e]
    obtain ⟨x', kr', e1, e2, e3, e4⟩ := h.v z ((List.mem_append.mp hz).resolve_right fun m => e (List.mem_singleton.mp m))
    exact ⟨x', kr', e1, e2.updT hS, e3, e4⟩
theorem SmkAt.updT {H : Hp} {d d' : Addr} {o : HO} {kvs : List (List Key × V)} {ks : List (Int × Int)} {fs : Int × Int → V} {N : Int × Int → List Part} (h : SmkAt H d ks fs N) (hd : H d' = some (.dT kvs)) (ne : d ≠ d') : SmkAt (upd H d' o) d ks fs N := ⟨by rw [upd_ne ne]; exact h.at_, fun k hk => by
  obtain ⟨x, kr, e, a, b, c⟩ := h.v k hk
  exact ⟨x, kr, e, a.updT hd, b, c⟩⟩
theorem LnkAt.updT {C : Addr} {H : Hp} {d d' : Addr} {o : HO} {kvs : List (List Key × V)} {a b : Int} {ks : List (Int × Int)} {fv : Int × Int → V} {N : Int × Int → List Part} (h : LnkAt C H d a b ks fv N) (hd : H d' = some (.dT kvs)) (ne : d ≠ d') : LnkAt C (upd H d' o) d a b ks fv N := ⟨by rw [upd_ne ne]; exact h.at_, h.nd, h.off, fun k hk => by
  obtain ⟨y, e, z⟩ := h.num k hk
  exact ⟨y, e, z.updT hd⟩⟩
theorem LnkAt.put {C : Addr} {H : Hp} {dN y : Addr} {a b : Int} {ks : List (Int × Int)} {fv : Int × Int → V} {N : Int × Int → List Part} {k : Int × Int} {L : List Part} (h : LnkAt C H dN a b ks fv N) (hk : k ∉ ks) (hw : PairP b k.1) (hv : PairP a k.2) (hy : NumAt C H y L) :
    LnkAt C (upd H dN (.dT (entT kP (addK ks k) (setVal fv k (.ref y))))) dN a b (ks ++ [k]) (setVal fv k (.ref y)) (setN N k L) := by
  have hN := h.at_
  refine ⟨by rw [upd_same, addK_new hk], ?_, fun z hz => ?_, fun z hz => ?_⟩
  · exact List.nodup_append.mpr ⟨h.nd, by simp, fun z hz w hw' => by rw [List.mem_singleton.mp hw']; exact fun e => hk (e ▸ hz)⟩
  · rcases List.mem_append.mp hz with m | m
    · exact h.off z m
    · rw [List.mem_singleton.mp m]
      exact ⟨hw, hv⟩
  · unfold setVal setN
    by_cases e : z = k
    · rw [if_pos e, if_pos e]
      exact ⟨y, rfl, hy.updT hN⟩
    · rw [if_neg e, if_neg e]
      obtain ⟨y', e1, e2⟩ := h.num z ((List.mem_append.mp hz).resolve_right fun m => e (List.mem_singleton.mp m))
      exact ⟨y', e1, e2.updT hN⟩
theorem PenAt.updT {H : Hp} {p c d : Addr} {ms : List Int} {n : Int} {o : HO} {kvs : List (List Key × V)} (h : PenAt H p c ms n) (hd : H d = some (.dT kvs)) : PenAt (upd H d o) p c ms n := by
  obtain ⟨l, h1, h2, h3⟩ := h
  exact ⟨l, by rw [upd_ne fun e => by rw [e, hd] at h1; cases h1]; exact h1, by rw [upd_ne fun e => by rw [e, hd] at h2; cases h2]; exact h2, h3⟩
theorem LnkB.put {ks : List (Int × Int)} {N : Int × Int → List Part} {D : Nat} {k : Int × Int} {L : List Part} (h : LnkB ks N D) (hk : k ∉ ks) (f : Fit D 1158 256 L) (l : L.length ≤ 1) : LnkB (ks ++ [k]) (setN N k L) D := ⟨h.d0, h.d1, fun z hz => by
  unfold setN
  by_cases e : z = k
  · rw [if_pos e]
    exact ⟨f, l⟩
  · rw [if_neg e]
    exact h.f z ((List.mem_append.mp hz).resolve_right fun m => e (List.mem_singleton.mp m))⟩
/-- the numbers that a linking is drawn of -/
def LinkQ (C p c : Addr) (ms : List Int) (n : Int) (H : Hp) (a b : Int) (m : Int) (Q : V → Hp → Prop) : Prop := ∀ (t dS dN : Addr) (ks : List (Int × Int)) (fs fv : Int × Int → V) (N : Int × Int → List Part) (D : Nat) (n' : Int) (H' : Hp), H' t = some (.tup [.ref dS, .ref dN]) → LkP C H' dS dN a b ks fs fv N D → LnkB ks N D → ks.length ≤ 200 → n ≤ n' → n' ≤ n + m → PenAt H' p c ms n' → SameBut p H H' → Q (.ref t) H'
section
variable {P : Program} {w : World} {K : PySem.W.Frag} {mg : Str → Option Value} {base : Heap} {f : Addr} {fd : FuncData} {C fI fQ : Addr}
def spLinkL (C : Addr) : Sp := fun vs H Q _ => ∃ (p c : Addr) (ms : List Int) (n a b : Int), vs = [.ref p, .int a, .int b] ∧ PenAt H p c ms n ∧ 0 ≤ n ∧ n ≤ 800000 ∧ 0 ≤ a ∧ a ≤ 8 ∧ 0 ≤ b ∧ b ≤ 8 ∧ LinkQ C p c ms n H a b 400 Q
theorem r4_ok : ∀ r ∈ ([1, 2, 3, 6] : List Int), RootOk r ∧ (TCM.sqOut r).1 = 1 ∧ (TCM.sqOut r).2.1 = r ∧ 0 < r ∧ r < 7 := fun r hr => by
  have h : ∀ r ∈ ([1, 2, 3, 6] : List Int), (0 ≤ r ∧ r ≤ 1000000 ∧ (TCM.sqOut r).2.2 = 1 ∧ 0 ≤ (TCM.sqOut r).1 ∧ (TCM.sqOut r).1 ≤ 1000) ∧ (TCM.sqOut r).1 = 1 ∧ (TCM.sqOut r).2.1 = r ∧ 0 < r ∧ r < 7 := by decide +kernel
  exact h r hr
theorem ex4 {r t b : Int} (h : r ∈ ([1, 2, 3, 6] : List Int)) : exL t b r = oneL r t b := by
  obtain ⟨_, e1, e2, _⟩ := r4_ok r h
  unfold exL
  rw [e1, e2, Int.mul_one]
abbrev nLinkL : List Str := ["_law_pen_here", "_law_a", "_law_b", "_law_some", "_law_numbers", "_law_v", "_law_w", "_law_r", "_law_up", "_law_under"]
theorem scLinkL : FnScope nLinkL ["_law_pen_here", "_law_a", "_law_b"] (defScope sLinkingL) := ⟨rfl, rfl, rfl, by decide +kernel, rfl, by decide +kernel, by decide +kernel⟩
theorem ok_linkL {fD fC fL fE : Addr} {fdD fdC fdL fdE : FuncData} (F : FnP K "_law_linking" sLinkingL f fd) (FE : FnE K fE fdE) (GE : FnOk P w K mg base CX0 4 fE fdE psE (spExact C)) (gE : mg "exact" = some (.ref fE))
    (GD : FnOk P w K mg base CX0 1 fD fdD ["_law_pen_here", "_law_many"] spDraw) (bD : L2.Binds K fdD ["_law_pen_here", "_law_many"] []) (kD : PySem.W.keepIn K (.ref fD) = true) (gD : mg "_law_draw" = some (.ref fD))
    (GC : FnOk P w K mg base CX0 1 fC fdC ["_law_some"] spCleared) (bC : L2.Binds K fdC ["_law_some"] []) (kC : PySem.W.keepIn K (.ref fC) = true) (gC : mg "_law_cleared" = some (.ref fC))
    (GL : FnOk P w K mg base CX0 1 fL fdL ["_law_up", "_law_under"] spLowL) (bL : L2.Binds K fdL ["_law_up", "_law_under"] []) (kL : PySem.W.keepIn K (.ref fL) = true) (gL : mg "_law_low" = some (.ref fL)) (grange : mg "range" = none) :
    FnOk P w K mg base CX0 5 f fd ["_law_pen_here", "_law_a", "_law_b"] (spLinkL C) := by
  obtain ⟨mvB, kbB⟩ := bEbr FE
  refine F.ok scLinkL (fun vs H Q E h => ?_) (fun cdv Ar outer s H vs Q E' hr h => ?_)
  · obtain ⟨_, _, _, _, _, _, rfl, _⟩ := h
    rfl
  obtain ⟨p, c, ms, n, a, b, rfl, hp, n0, n1, a0, a8, b0, b8, q⟩ := h
  have hu := hr.units
  have hr1 := hr.mono (j := 1) (by decide)
  have hr4 := hr
  refine ⟨_, PSs.nox (C8.pss_cut (ps_par (i := 3) (j := 4) (by rfl) scLinkL.nd rfl rfl (by decide) rfl rfl (pa_cons pe_dnewT (pa_cons pe_dnewT pa_nil)) (by rfl))
      (C8.pss_cut (ps_for PassesOwn.never rfl (pi_range3 (by rfl) grange (pa_cons (pe_un un_neg (pv 1)) (pa_cons (pe_op op_add (pv 1) pe_int) (pa_cons pe_int pa_nil)))) (pg_name (i := 5) scLinkL.nd rfl (.inl rfl))
        (pss_one (ps_for PassesOwn.never rfl (pi_range3 (by rfl) grange (pa_cons (pe_un un_neg (pv 2)) (pa_cons (pe_op op_add (pv 2) pe_int) (pa_cons pe_int pa_nil)))) (pg_name (i := 6) scLinkL.nd rfl (.inl rfl))
        (C8.pss_cut (ps_par3 (i := 7) (j := 8) (l := 9) rfl scLinkL.nd rfl rfl rfl (by decide) (by decide) (by decide) rfl rfl rfl (pa_cons (pe_ix ix_list (pe_lst (pa_cons pe_int (pa_cons pe_int (pa_cons pe_int (pa_cons pe_int pa_nil))))) (pe_call GD hr1 (by rfl) gD kD bD .nil pass0 (pa_cons (pv 0) (pa_cons pe_int pa_nil))) (fun _ _ => rfl)) (pa_cons (pe_op op_sub (pe_call GD hr1 (by rfl) gD kD bD .nil pass0 (pa_cons (pv 0) (pa_cons pe_int pa_nil))) pe_int) (pa_cons (pe_op op_add pe_int (pe_call GD hr1 (by rfl) gD kD bD .nil pass0 (pa_cons (pv 0) (pa_cons pe_int pa_nil)))) pa_nil))) (by rfl))
      (pss_one (ps_if (pt_cmpR op_gt (pe_call GD hr1 (by rfl) gD kD bD .nil pass0 (pa_cons (pv 0) (pa_cons pe_int pa_nil))) pe_int (nomark _)) (C8.pss_cut (ps_dput (hu_of hr) (pv 3) (pe_tup (pa_cons (pv 6) (pa_cons (pv 5) pa_nil))) (pe_call GC hr1 (by rfl) gC kC bC .nil pass0 (pa_cons (pe_disp (pps_cons (pv 7) (pe_call GL hr1 (by rfl) gL kL bL .nil pass0 (pa_cons (pv 8) (pa_cons (pv 9) pa_nil))) pps_nil) rfl rfl (by intro z; cases z) (by decide)) pa_nil)) rfl)
      (pss_one (ps_dput (hu_of hr) (pv 4) (pe_tup (pa_cons (pv 6) (pa_cons (pv 5) pa_nil))) (pe_callN GE hr4 (by rfl) gE FE.kp kbB pass0 (pa_cons (pv 8) pa_nil) (pk_cons (pv 9) (pk_cons (pv 7) pk_nil))) rfl))) pss_nil))))))
      (pss_one (ps_ret (pe_tup (pa_cons (pv 3) (pa_cons (pv 4) pa_nil))))))), ?_⟩
  refine ⟨fun σ H1 => ∃ dS dN : Addr, σ = [some (.ref p), some (.int a), some (.int b), some (.ref dS), some (.ref dN), none, none, none, none, none] ∧ Same H H1 ∧ H dS = none ∧ H dN = none ∧ LkP C H1 dS dN a b [] (fun _ => .non) (fun _ => .non) (fun _ => []) 12, ?_, fun σ H1 hh => ?_⟩
  · intro dS hS dN hN
    have s1 := same_upd (o := .dT []) hS
    have s2 := same_upd (o := .dT []) hN
    have ne : dS ≠ dN := ne_of_none upd_same hN
    refine ⟨_, _, rfl, dS, dN, rfl, s1.trans s2, hS, s1.free hN, ⟨⟨s2 _ _ upd_same, (fun k hk => by cases hk)⟩, ⟨upd_same, List.nodup_nil, (fun k hk => by cases hk), (fun k hk => by cases hk)⟩, ne⟩⟩
  obtain ⟨dS, dN, rfl, s1, hS, hN, lk⟩ := hh
  have pS : dS ≠ p := fun z => by
    obtain ⟨_, h1, _⟩ := hp
    rw [← z, hS] at h1
    cases h1
  have pN : dN ≠ p := fun z => by
    obtain ⟨_, h1, _⟩ := hp
    rw [← z, hN] at h1
    cases h1
  have pc : dS ≠ c ∧ dN ≠ c := by
    obtain ⟨_, _, h1, _⟩ := hp
    exact ⟨(fun z => by rw [← z, hS] at h1; cases h1), (fun z => by rw [← z, hN] at h1; cases h1)⟩
  have B0 : LnkB [] (fun _ => ([] : List Part)) 12 := ⟨by decide, by decide, fun k hk => by cases hk⟩
  refine ⟨fun σ H2 => ∃ (ks : List (Int × Int)) (fs fv : Int × Int → V) (N : Int × Int → List Part) (n' : Int) (v5 v6 v7 v8 v9 : Option V), σ = [some (.ref p), some (.int a), some (.int b), some (.ref dS), some (.ref dN), v5, v6, v7, v8, v9] ∧ LkP C H2 dS dN a b ks fs fv N 12 ∧ LnkB ks N 12 ∧ ks.length ≤ 81 ∧ n ≤ n' ∧ n' ≤ n + 400 ∧ PenAt H2 p c ms n' ∧ SameBut p H H2, ?_, fun σ H2 hh => ?_⟩
  rotate_left
  · obtain ⟨ks, fs, fv, N, n', v5, v6, v7, v8, v9, rfl, lk2, B2, l2, m0, m1, p2, sb2⟩ := hh
    refine ⟨_, rfl, _, rfl, by show 2 ≤ sizeLine; decide, fun t ht => ?_⟩
    have st := same_upd (o := .tup [.ref dS, .ref dN]) ht
    exact q t dS dN ks fs fv N 12 n' _ upd_same (lk2.same st) B2 (Nat.le_trans l2 (by decide)) m0 m1 (p2.same st) (sb2.trans (Same.but st))
  refine ⟨_, rfl, _, rfl, _, rfl, _, _, rfl, rfl, -a, a + 1, 2, a.toNat + 1, rfl, ⟨by decide, by decide, small2 (by omega) (by omega) (by omega) (by omega), size2 (by omega) (by omega)⟩, ?_⟩
  refine for_rangeC (lo := -a) (c := 2) (n := a.toNat + 1) (fun i σ G => ∃ (ks : List (Int × Int)) (fs fv : Int × Int → V) (N : Int × Int → List Part) (n' : Int) (v5 v6 v7 v8 v9 : Option V), σ = [some (.ref p), some (.int a), some (.int b), some (.ref dS), some (.ref dN), v5, v6, v7, v8, v9] ∧ LkP C G dS dN a b ks fs fv N 12 ∧ LnkB ks N 12 ∧ ks.length ≤ 9 * i ∧ (∀ x ∈ ks, x.2 < -a + 2 * (i : Int)) ∧ n ≤ n' ∧ n' ≤ n + 36 * i ∧ PenAt G p c ms n' ∧ SameBut p H G)
    ⟨[], _, _, _, n, none, none, none, none, none, rfl, lk, B0, Nat.le_refl _, (fun x hx => by cases hx), by omega, by omega, hp.same s1, Same.but s1⟩ (fun i σ G hi hP => ?_) (fun σ G hP => ?_)
  rotate_left
  · obtain ⟨ks, fs, fv, N, n', v5, v6, v7, v8, v9, rfl, lk2, B2, l2, _, m0, m1, p2, sb2⟩ := hP
    exact ⟨ks, fs, fv, N, n', v5, v6, v7, v8, v9, rfl, lk2, B2, by omega, m0, by omega, p2, sb2⟩
  obtain ⟨ks, fs, fv, N, n', v5, v6, v7, v8, v9, rfl, lk2, B2, l2, o2, m0, m1, p2, sb2⟩ := hP
  obtain ⟨v, ev⟩ : ∃ v : Int, -a + ((i : Nat) : Int) * 2 = v := ⟨_, rfl⟩
  rw [ev]
  refine ⟨_, rfl, _, rfl, _, rfl, _, _, rfl, rfl, -b, b + 1, 2, b.toNat + 1, rfl, ⟨by decide, by decide, small2 (by omega) (by omega) (by omega) (by omega), size2 (by omega) (by omega)⟩, ?_⟩
  refine for_rangeC (lo := -b) (c := 2) (n := b.toNat + 1) (fun j σ G' => ∃ (ks : List (Int × Int)) (fs fv : Int × Int → V) (N : Int × Int → List Part) (n' : Int) (v6 v7 v8 v9 : Option V), σ = [some (.ref p), some (.int a), some (.int b), some (.ref dS), some (.ref dN), some (.int v), v6, v7, v8, v9] ∧ LkP C G' dS dN a b ks fs fv N 12 ∧ LnkB ks N 12 ∧ ks.length ≤ 9 * i + j ∧ (∀ x ∈ ks, x.2 < v ∨ (x.2 = v ∧ x.1 < -b + 2 * (j : Int))) ∧ n ≤ n' ∧ n' ≤ n + 36 * i + 4 * j ∧ PenAt G' p c ms n' ∧ SameBut p H G')
    ⟨ks, fs, fv, N, n', v6, v7, v8, v9, rfl, lk2, B2, by omega, fun x hx => .inl (by have := o2 x hx; omega), m0, by omega, p2, sb2⟩ (fun j σ G' hj hP => ?_) (fun σ G' hP => ?_)
  rotate_left
  · obtain ⟨ks, fs, fv, N, n', v6, v7, v8, v9, rfl, lk2, B2, l2, o2, m0, m1, p2, sb2⟩ := hP
    refine ⟨ks, fs, fv, N, n', _, v6, v7, v8, v9, rfl, lk2, B2, by omega, fun x hx => ?_, m0, by omega, p2, sb2⟩
    rcases o2 x hx with z | ⟨z, _⟩ <;> omega
  clear lk2 B2 l2 o2 m0 m1 p2 sb2 v6 v7 v8 v9 ks fs fv N n'
  obtain ⟨ks, fs, fv, N, n', v6, v7, v8, v9, rfl, lk2, B2, l2, o2, m0, m1, p2, sb2⟩ := hP
  obtain ⟨x, ex⟩ : ∃ x : Int, -b + ((j : Nat) : Int) * 2 = x := ⟨_, rfl⟩
  rw [ex]
  -- r, up, under
  refine ⟨fun σ G2 => ∃ (r up un n2 : Int), σ = [some (.ref p), some (.int a), some (.int b), some (.ref dS), some (.ref dN), some (.int v), some (.int x), some (.int r), some (.int up), some (.int un)] ∧ r ∈ ([1, 2, 3, 6] : List Int) ∧ -4 ≤ up ∧ up ≤ 4 ∧ 1 ≤ un ∧ un ≤ 4 ∧ n' ≤ n2 ∧ n2 ≤ n' + 3 ∧ PenAt G2 p c ms n2 ∧ SameBut p G' G2, ?_, fun σ G2 hh => ?_⟩
  · refine ⟨by show 4 ≤ sizeLine; decide, fun l hl => ?_⟩
    have sl := same_upd (o := .lst [.int 1, .int 2, .int 3, .int 6]) hl
    refine ⟨_, rfl, p, c, ms, n', 4, rfl, p2.same sl, by omega, by omega, by decide, by decide, fun e n2 G2 e0 e1 x0 x1 q1 t1 => ?_⟩
    have hL := t1 _ _ (PenAt.ne p2 hl) upd_same
    obtain ⟨r, er, hr4'⟩ : ∃ r : Int, atI [V.int 1, V.int 2, V.int 3, V.int 6] e = some (.int r) ∧ r ∈ ([1, 2, 3, 6] : List Int) := by
      have : e = 0 ∨ e = 1 ∨ e = 2 ∨ e = 3 := by omega
      rcases this with rfl | rfl | rfl | rfl
      · exact ⟨1, atI_nat (j := 0) rfl, by decide⟩
      · exact ⟨2, atI_nat (j := 1) rfl, by decide⟩
      · exact ⟨3, atI_nat (j := 2) rfl, by decide⟩
      · exact ⟨6, atI_nat (j := 3) rfl, by decide⟩
    refine ⟨l, _, e, _, rfl, rfl, SqL.of hL, er, _, rfl, p, c, ms, n2, 9, rfl, q1, by omega, by omega, by decide, by decide, fun e2 n3 G3 e02 e12 x02 x12 q2 t2 => ?_⟩
    refine ⟨e2, 4, rfl, rfl, _, rfl, p, c, ms, n3, 4, rfl, q2, by omega, by omega, by decide, by decide, fun e3 n4 G4 e03 e13 x03 x13 q3 t3 => ?_⟩
    refine ⟨1, e3, rfl, rfl, _, _, _, rfl, r, e2 - 4, 1 + e3, n4, rfl, hr4', by omega, by omega, by omega, by omega, by omega, by omega, q3, (((Same.but sl).trans t1).trans t2).trans t3⟩
  obtain ⟨r, up, un, n2, rfl, hr', u0, u1, w0, w1, y0, y1, q1, t1⟩ := hh
  have lk3 := lk2.but t1 p2
  have kn : (x, v) ∉ ks := fun m => by
    rcases o2 _ m with z | ⟨_, z⟩ <;> dsimp only at z <;> omega
  have Pw : PairP b x := ⟨b0, by omega, by omega, by omega, by omega⟩
  have Pv : PairP a v := ⟨a0, by omega, by omega, by omega, by omega⟩
  refine ⟨_, rfl, p, c, ms, n2, 3, rfl, q1, by omega, by omega, by decide, by decide, fun e n3 G3 e0 e1 x0 x1 q3 t3 => ?_⟩
  have lk4 := lk3.but t3 q1
  have sb3 := (sb2.trans t1).trans t3
  refine ⟨e, 0, rfl, rfl, _, rfl, ?_⟩
  by_cases z : e > 0
  rotate_left
  · exact iteD0 z ⟨ks, fs, fv, N, n3, _, _, _, _, rfl, lk4, B2, by omega, fun y hy => (o2 y hy).elim .inl fun w2 => .inr ⟨w2.1, by have := w2.2; omega⟩, by omega, by omega, q3, sb3⟩
  refine iteD1 z ?_
  have un0 : un ≠ 0 := by omega
  have zn : un.natAbs < 2 ^ 6 := Nat.lt_of_le_of_lt (show un.natAbs ≤ 4 by omega) (by decide)
  obtain ⟨rok, _, _, r0, r7⟩ := r4_ok r hr'
  have ev4 : ∀ s, TCR.val (oneL r up un) s = if s = r then Rat.divInt up un else 0 := fun s => val_oneL r up un s
  -- the dict
  refine ⟨fun σ G4 => ∃ (w : Addr) (kr : List Int), σ = [some (.ref p), some (.int a), some (.int b), some (.ref dS), some (.ref dN), some (.int v), some (.int x), some (.int r), some (.int up), some (.int un)] ∧ SmkAt G4 dS (ks ++ [(x, v)]) (setVal fs (x, v) (.ref w)) (setN N (x, v) (oneL r up un)) ∧ LnkAt C G4 dN a b ks fv N ∧ PenAt G4 p c ms n3 ∧ SameBut p H G4, ?_, fun σ G4 hh => ?_⟩
  · intro dp hdp
    have s1' := same_upd (o := .dK []) hdp
    refine ⟨_, rfl, _, rfl, _, rfl, up, un, 6, rfl, un0, zn, by decide, by decide, fun w hw => ?_⟩
    rw [lowL_fra un0 rfl]
    have s2' := same_upd (o := fraV (Rat.divInt up un)) hw
    have nu : w ≠ dp := fun z => by
      rw [z, upd_same] at hw
      cases hw
    refine ⟨s2' _ _ upd_same, [(Sum.inl r, .ref w)], rfl, by show 1 ≤ 15; decide, ?_⟩
    have s3' : Same G3 (upd (upd (upd G3 dp (.dK [])) w (fraV (Rat.divInt up un))) dp (.dK (mergeK [] [((Sum.inl r : Key), V.ref w)]))) := same_at (s1'.trans s2') hdp
    have hD : DictAt (upd (upd (upd G3 dp (.dK [])) w (fraV (Rat.divInt up un))) dp (.dK (mergeK [] [((Sum.inl r : Key), V.ref w)]))) dp [r] (TCR.val (oneL r up un)) := by
      refine ⟨_, upd_same, rfl, fun s hs => ?_, by simp, fun s hs => ?_⟩
      · rw [List.mem_singleton.mp hs, ev4, if_pos rfl]
        refine ⟨w, ?_, by rw [upd_ne nu]; exact upd_same⟩
        show valV [((Sum.inl r : Key), V.ref w)] (Sum.inl r) = some (.ref w)
        simp [valV]
      · rw [ev4, if_neg fun z => hs (List.mem_singleton.mpr z)]
    refine ⟨dp, [r], _, rfl, hD, (by show 1 ≤ 900; decide), fun d' kr' G5 s4 hd' hD' cl' l' _ => ?_⟩
    have lk5 := (lk4.same s3').same s4
    refine ⟨_, rfl, _, rfl, _, rfl, by show 2 ≤ sizeLine; decide, fun t ht => ?_⟩
    have st := same_upd (o := .tup [.int x, .int v]) ht
    have lk6 := lk5.same st
    refine ⟨dS, _, rfl, dput_entT (r := (x, v)) kP_inj lk6.s.at_ upd_same (Nat.lt_of_le_of_lt (m := 100) (by omega) (by decide)), d', kr', rfl, lk6.s.put kn (hD'.same st) cl' l', lk6.n.updT lk6.s.at_ lk6.ne.symm, (((q3.same s3').same s4).same st).updT lk6.s.at_, fun b' o' nb hb => ?_⟩
    rw [upd_ne fun z => by rw [z, hS] at hb; cases hb]
    exact st _ _ (s4 _ _ (s3' _ _ (sb3 _ _ nb hb)))
  obtain ⟨w, kr, rfl, hS4, hN4, q4, sb4⟩ := hh
  -- the number
  refine ⟨_, rfl, _, rfl, _, rfl, rfl, rfl, up, un, r, 6, rfl, un0, zn, by decide, by decide, rok, fun y G5 s5 hy hNy => ?_⟩
  rw [ex4 hr'] at hNy
  refine ⟨_, rfl, _, rfl, _, rfl, by show 2 ≤ sizeLine; decide, fun t ht => ?_⟩
  have st := same_upd (o := .tup [.int x, .int v]) ht
  have hN6 := (hN4.same s5).same st
  have hS6 := (hS4.same s5).same st
  have ft : Fit 12 1158 256 (oneL r up un) := by
    unfold oneL
    split
    · exact ⟨TCR.canon_nil, (fun x hx => by cases hx), (fun x hx => by cases hx), (fun x hx => by cases hx)⟩
    · rename_i hup
      refine ⟨TCR.canon_one (divInt_ne un0 hup), fun y hy => ?_, fun y hy => ?_, fun y hy => ?_⟩ <;> rw [List.mem_singleton.mp hy]
      · show (Rat.divInt up un).den ∣ 12
        have eu : un = ((un.toNat : Nat) : Int) := by omega
        have d1 := den_divInt (t := up) (show 0 < un.toNat by omega)
        rw [← eu] at d1
        refine Nat.dvd_trans d1 ?_
        have : un.toNat = 1 ∨ un.toNat = 2 ∨ un.toNat = 3 ∨ un.toNat = 4 := by omega
        rcases this with e | e | e | e <;> rw [e] <;> decide
      · show (Rat.divInt up un).num.natAbs < 2 ^ 1158
        have lo := (TCM.low_abs up un un0).1
        rw [TCR.low_rat _ _ un0] at lo
        exact Nat.lt_of_le_of_lt (m := 4) (Nat.le_trans lo (by omega)) (Nat.lt_of_lt_of_le (by decide : 4 < 2 ^ 3) (Nat.pow_le_pow_right (by decide) (by decide)))
      · exact ⟨r0, Nat.lt_of_lt_of_le (show r.natAbs < 2 ^ 3 by omega) (Nat.pow_le_pow_right (by decide) (by decide))⟩
  refine ⟨dN, _, rfl, dput_entT (r := (x, v)) kP_inj hN6.at_ upd_same (Nat.lt_of_le_of_lt (m := 100) (by omega) (by decide)), ks ++ [(x, v)], _, _, _, n3, _, _, _, _, rfl, ⟨hS6.updT hN6.at_ lk.ne, hN6.put kn Pw Pv (hNy.same st), lk.ne⟩, B2.put kn ft (len_oneL _ _ _), ?_, fun y' hy' => ?_, by omega, by omega, ((q4.same s5).same st).updT hN6.at_, fun b' o' nb hb => ?_⟩
  · rw [List.length_append]
    have : ([(x, v)] : List (Int × Int)).length = 1 := rfl
    omega
  · rcases List.mem_append.mp hy' with m | m
    · rcases o2 y' m with w' | ⟨w', w2⟩
      · exact .inl w'
      · exact .inr ⟨w', by omega⟩
    · rw [List.mem_singleton.mp m]
      exact .inr ⟨rfl, by show x < _; omega⟩
  · rw [upd_ne fun z => by rw [z, hN] at hb; cases hb]
    exact st _ _ (s5 _ _ (sb4 _ _ nb hb))
end
end TC
namespace TC
set_option exponentiation.threshold 20000
open PySem PySem.Spec PyProof.Rows L2 TCA TCX
/-! ### K60LH: the roots of small joined numbers -/
theorem leg_zero {n p : Nat} (h : n < p) : legN n p = 0 := by
  have p0 : 0 < p := by omega
  have m : ∀ q, 0 < q → n / (p * q) = 0 := fun q hq => Nat.div_eq_of_lt (Nat.lt_of_lt_of_le h (Nat.le_mul_of_pos_right p hq))
  unfold legN
  have h1 := m 1 (by decide)
  rw [Nat.mul_one] at h1
  have h2 := m p p0
  have h3 := m (p * p) (Nat.mul_pos p0 p0)
  have h4 := m (p * p * p) (Nat.mul_pos (Nat.mul_pos p0 p0) p0)
  have h5 := m (p * p * p * p) (Nat.mul_pos (Nat.mul_pos (Nat.mul_pos p0 p0) p0) p0)
  have h6 := m (p * p * p * p * p) (Nat.mul_pos (Nat.mul_pos (Nat.mul_pos (Nat.mul_pos p0 p0) p0) p0) p0)
  rw [← Nat.mul_assoc] at h3
  rw [← Nat.mul_assoc, ← Nat.mul_assoc] at h4
  rw [← Nat.mul_assoc, ← Nat.mul_assoc, ← Nat.mul_assoc] at h5
  rw [← Nat.mul_assoc, ← Nat.mul_assoc, ← Nat.mul_assoc, ← Nat.mul_assoc] at h6
  rw [h1, h2, h3, h4, h5, h6]
theorem sumL_nought {p : Nat} : ∀ {l : List Nat}, (∀ n ∈ l, n < p) → sumL l p = 0
  | [], _ => rfl
  | n :: l, h => by
    show legN n p + sumL l p = 0
    rw [leg_zero (h n (by simp)), sumL_nought fun m hm => h m (List.mem_cons_of_mem _ hm)]
theorem pick_none {f : Nat → Bool} : ∀ {l : List Nat}, (∀ p ∈ l, f p = false) → pickP f l = 1
  | [], _ => rfl
  | p :: l, h => by
    show (if f p then p * pickP f l else pickP f l) = 1
    rw [h p (by simp), if_neg Bool.false_ne_true]
    exact pick_none fun q hq => h q (List.mem_cons_of_mem _ hq)
theorem pick_app {f : Nat → Bool} {b : List Nat} (hb : ∀ p ∈ b, f p = false) : ∀ a : List Nat, pickP f (a ++ b) = pickP f a
  | [] => pick_none hb
  | p :: a => by
    show (if f p then p * pickP f (a ++ b) else pickP f (a ++ b)) = (if f p then p * pickP f a else pickP f a)
    rw [pick_app hb a]
/-- a root that exact takes as it is -/
structure RtS (r : Int) : Prop where
  ok : RootOk r
  o : (TCM.sqOut r).1 = 1
  i : (TCM.sqOut r).2.1 = r
  r0 : 0 < r
def rtSB (r : Int) : Bool := decide (0 ≤ r) && (decide (r ≤ 1000000) && (match TCM.sqOut r with
  | (o, i, m) => decide (m = 1) && (decide (o = 1) && (decide (i = r) && decide (0 < r)))))
theorem rtS_of {r : Int} (h : rtSB r = true) : RtS r := by
  unfold rtSB at h
  cases hs : TCM.sqOut r with
  | mk o im =>
  obtain ⟨i, m⟩ := im
  rw [hs] at h
  simp only [Bool.and_eq_true, decide_eq_true_eq] at h
  obtain ⟨h1, h2, h3, h4, h5, h6⟩ := h
  refine ⟨⟨h1, h2, by rw [hs]; exact h3, by rw [hs]; show 0 ≤ o; omega, by rw [hs]; show o ≤ 1000; omega⟩, by rw [hs]; exact h4, by rw [hs]; exact h5, h6⟩
def pk7 (a b c d e f g : Bool) : Nat := (if a then 2 * (if b then 3 * (if c then 5 * (if d then 7 * (if e then 11 * (if f then 13 * (if g then 17 * 1 else 1) else (if g then 17 * 1 else 1)) else (if f then 13 * (if g then 17 * 1 else 1) else (if g then 17 * 1 else 1))) else (if e then 11 * (if f then 13 * (if g then 17 * 1 else 1) else (if g then 17 * 1 else 1)) else (if f then 13 * (if g then 17 * 1 else 1) else (if g then 17 * 1 else 1)))) else 1) else 1) else 1)
theorem pick_small {f : Nat → Bool} (h : ∀ p ∈ pr30, 17 < p → f p = false) : pickP f pr30 = pickP f [2, 3, 5, 7, 11, 13, 17] := by
  have e : pr30 = [2, 3, 5, 7, 11, 13, 17] ++ pr30.drop 7 := by decide +kernel
  rw [e, pick_app fun p hp => h p (by rw [e]; exact List.mem_append_right _ hp) ((show ∀ p ∈ pr30.drop 7, 17 < p by decide +kernel) p hp)]
def allB (n : Nat) (k : List Bool → Bool) : Bool := match n with
  | 0 => k []
  | n + 1 => allB n (fun l => k (true :: l)) && allB n (fun l => k (false :: l))
theorem allB_get : ∀ {n : Nat} {k : List Bool → Bool}, allB n k = true → ∀ l : List Bool, l.length = n → k l = true
  | 0, k, h, [], _ => h
  | n + 1, k, h, b :: l, hl => by
    have h' := Bool.and_eq_true_iff.mp h
    have ll : l.length = n := by simpa using hl
    cases b with
    | true => exact allB_get h'.1 l ll
    | false => exact allB_get h'.2 l ll
/-- the product of those of a list that are marked -/
def mkd : List Nat → List Bool → Nat
  | p :: ps, b :: bs => if b then p * mkd ps bs else mkd ps bs
  | _, _ => 1
theorem pick_mkd (f : Nat → Bool) : ∀ l : List Nat, pickP f l = mkd l (l.map f)
  | [] => rfl
  | p :: l => by
    show (if f p then p * pickP f l else pickP f l) = (if f p then p * mkd l (l.map f) else mkd l (l.map f))
    rw [pick_mkd f l]
theorem all7 : allB 7 (fun l => rtSB ((mkd [2, 3, 5, 7, 11, 13, 17] l : Nat) : Int)) = true := by decide +kernel
theorem root_s {above below : List Nat} (ha : ∀ n ∈ above, n < 19) (hb : ∀ n ∈ below, n < 19) : RtS ((rootE above below : Nat) : Int) := by
  unfold rootE
  rw [pick_small fun p hp h17 => ?_, pick_mkd]
  · exact rtS_of (allB_get all7 _ (by simp))
  · have p19 : 19 ≤ p := by
      have := (show ∀ p ∈ pr30, p ≤ 17 ∨ 19 ≤ p by decide +kernel) p hp
      omega
    refine decide_eq_false ?_
    unfold expE
    rw [sumL_nought fun n hn => by have := ha n hn; omega, sumL_nought fun n hn => by have := hb n hn; omega]
    decide
end TC
/-! a dict != {}. -/
namespace TCX
open PySem PySem.Spec PyProof.Rows L2 TCA
section
variable {X : Cx}
def rNeE : R2 := fun x y H Q => ∃ a b ks, x = .ref a ∧ y = .ref b ∧ H a = some (.dK ks) ∧ H b = some (.dK []) ∧ Q (.bl (!decide (ks.length = 0))) H
theorem op_neE (hu : X.A.units < cLine) : OpR X (compareOp .NotEq) rNeE := by
  intro pins s σ H x y v u Q I rx ry h
  obtain ⟨a, b, ks, rfl, rfl, ea, eb, q⟩ := h
  obtain rfl : v = Value.ref a := rx
  obtain rfl : u = Value.ref b := ry
  obtain ⟨_, ya, va, ra, da⟩ := (show ObjOk X.prog X.w H s.heap a (.dK ks) from I.hok a _ ea)
  obtain ⟨_, yb, vb, rb, db⟩ := (show ObjOk X.prog X.w H s.heap b (.dK []) from I.hok b _ eb)
  have l1 : ks.length = va.length := ra.length
  have l2 : vb.length = 0 := by rw [← rb.length]; rfl
  refine PySem.W.keq_ne (knd := mixKind X.prog X.w) (r := true) ya yb da db hu (fun hl => ?_) (fin_bl I q ?_)
  · have e0 : ks = [] := List.length_eq_zero_iff.mp (by omega)
    subst e0
    exact hits_all rb ra (fun p hp => by cases hp)
  · by_cases h0 : ks.length = 0
    · have e : va.length = vb.length := by omega
      simp [h0, e]
    · have e : ¬ va.length = vb.length := by omega
      simp [h0, e]
end
end TCX
namespace TC
set_option exponentiation.threshold 20000
open PySem PySem.Spec PyProof.Rows L2 TCA TCX
/-! ### K60LI: _law_one_tensor -/
theorem Fit.vden {D A R : Nat} {L : List Part} (h : Fit D A R L) (r : Int) : (TCR.val L r).den ∣ D := by
  rcases Classical.em (∃ q, (r, q) ∈ L) with ⟨q, z⟩ | z
  · rw [h.can.mem z]
    exact h.den _ z
  · rw [TCR.val_not fun x hx e => z ⟨x.2, by rw [← e]; exact hx⟩]
    exact Nat.one_dvd _
theorem mul_int (q : Rat) (t : Int) : q * Rat.divInt t 1 = Rat.divInt (q.num * t) (q.den : Int) := by
  have h := Rat.divInt_mul_divInt q.num t (d₁ := (q.den : Int)) (d₂ := 1)
  rw [Rat.num_divInt_den, Int.mul_one] at h
  exact h
/-- what one number of one tensor is -/
theorem one_part {a v k q b w up : Int} (h1 : PairP a v) (h2 : PairP k q) (h3 : PairP b w) (a8 : a ≤ 8) (k16 : k ≤ 16) (b8 : b ≤ 8) (j : canB a k b = true) (u0 : 0 ≤ up) (u2 : up ≤ 2) {r : Int} {x : Rat} (hx : TCR.val (joinL a v k q b w) r * Rat.divInt up 1 = x) (x0 : x ≠ 0) :
    RtS r ∧ (∀ s, TCR.val (oneL r x.num (x.den : Int)) s = TCR.val (joinL a v k q b w) s * Rat.divInt up 1) ∧ Fit (prodF (jBe a k b)) 1158 256 (oneL r x.num (x.den : Int)) := by
  obtain ⟨F, _⟩ := join_fit8 h1 h2 h3 a8 k16 b8 j
  have v0 : TCR.val (joinL a v k q b w) r ≠ 0 := fun z => x0 (by rw [← hx, z, Rat.zero_mul])
  by_cases J : JoinP a k b v q w
  rotate_left
  · refine absurd ?_ v0
    unfold joinL
    rw [if_neg J]
    rfl
  obtain ⟨ρ, hρ⟩ : ∃ ρ : Int, ((rootE (jAb a v k q b w) (jBe a k b) : Nat) : Int) = ρ := ⟨_, rfl⟩
  obtain ⟨y, hy⟩ : ∃ y : Rat, Rat.divInt (jSum a v k q b) 1 * Rat.divInt ((topE (jAb a v k q b w) (jBe a k b) : Nat) : Int) ((botE (jAb a v k q b w) (jBe a k b) : Nat) : Int) = y := ⟨_, rfl⟩
  have eJ : joinL a v k q b w = oneQ ρ y := by
    unfold joinL
    rw [if_pos J, hρ, hy]
  have RS : RtS ρ := by
    rw [← hρ]
    obtain ⟨_, _, a1, a2, _⟩ := h1
    obtain ⟨_, _, k1, k2, _⟩ := h2
    obtain ⟨_, _, b1, b2, _⟩ := h3
    refine root_s (fun n hn => ?_) fun n hn => ?_
    · simp only [jAb, List.mem_cons, List.not_mem_nil, or_false] at hn
      omega
    · simp only [jBe, List.mem_cons, List.not_mem_nil, or_false] at hn
      omega
  rw [eJ] at v0 F hx ⊢
  rw [val_oneQ] at v0 hx
  have er : r = ρ := by
    by_cases z : r = ρ
    · exact z
    · rw [if_neg z] at v0
      exact absurd rfl v0
  subst er
  rw [if_pos rfl] at v0 hx
  have eF : oneQ r y = [(r, y)] := if_neg v0
  rw [eF] at F
  have d1 := F.den _ (List.mem_singleton.mpr rfl)
  have n1 := F.num _ (List.mem_singleton.mpr rfl)
  have p1 := F.pos _ (List.mem_singleton.mpr rfl)
  dsimp only at d1 n1 p1
  have xm := (mul_int y up).symm.trans hx
  have dp : 0 < y.den := y.den_pos
  have num0 : x.num ≠ 0 := fun z => x0 (Rat.num_eq_zero.mp z)
  refine ⟨RS, fun s => ?_, ?_⟩
  · rw [val_oneL, val_oneQ, Rat.num_divInt_den]
    by_cases z : s = r
    · rw [if_pos z, if_pos z, hx]
    · rw [if_neg z, if_neg z, Rat.zero_mul]
  · unfold oneL
    rw [if_neg num0, Rat.num_divInt_den]
    refine ⟨TCR.canon_one x0, fun z hz => ?_, fun z hz => ?_, fun z hz => ?_⟩ <;> rw [List.mem_singleton.mp hz]
    · show x.den ∣ _
      rw [← xm]
      exact Nat.dvd_trans (den_divInt dp) d1
    · show x.num.natAbs < 2 ^ 1158
      have nd := num_divInt (a := y.num * up) (b := (y.den : Int)) (by omega)
      rw [xm] at nd
      have np : 0 < (y.num * up).natAbs := by
        rw [Int.natAbs_mul]
        refine Nat.mul_pos ?_ ?_
        · have : y.num ≠ 0 := fun z => v0 (Rat.num_eq_zero.mp z)
          omega
        · have : up ≠ 0 := fun z => x0 (by rw [← hx, z, divInt_zero, Rat.mul_zero])
          omega
      refine Nat.lt_of_le_of_lt (Nat.le_of_dvd np nd) ?_
      rw [Int.natAbs_mul]
      have u3 : up.natAbs ≤ 2 := by omega
      calc y.num.natAbs * up.natAbs ≤ y.num.natAbs * 2 := Nat.mul_le_mul_left _ u3
        _ < 2 ^ 1156 * 2 := Nat.mul_lt_mul_of_pos_right n1 (by decide)
        _ ≤ 2 ^ 1158 := by decide +kernel
    · exact p1
theorem rtS_ex {r t b : Int} (h : RtS r) : exL t b r = oneL r t b := by
  unfold exL
  rw [h.o, h.i, Int.mul_one]
theorem SameBut.free' {p c : Addr} {H H' : Hp} {ms : List Int} {n : Int} {d : Addr} (s : SameBut p H H') (hp : PenAt H' p c ms n) (h : H' d = none) : H d = none := by
  cases e : H d with
  | none => rfl
  | some o =>
    have := s d o (fun z => by
      obtain ⟨l, h1, _⟩ := hp
      rw [← z, h] at h1
      cases h1) e
    rw [h] at this
    cases this
section
variable {P : Program} {w : World} {K : PySem.W.Frag} {mg : Str → Option Value} {base : Heap} {f : Addr} {fd : FuncData} {C fI fQ : Addr}
abbrev nOneT : List Str := ["_law_pen_here", "_law_a", "_law_b", "_law_k", "_law_some", "_law_numbers", "_law_q", "_law_up", "_law_v", "_law_part", "_law_r"]
theorem scOneT : FnScope nOneT ["_law_pen_here", "_law_a", "_law_b"] (defScope sOneTensorL) := ⟨rfl, rfl, rfl, by decide +kernel, rfl, by decide +kernel, by decide +kernel⟩
theorem ok_oneT {fD fT fB fE : Addr} {fdD fdT fdB fdE : FuncData} (F : FnP K "_law_one_tensor" sOneTensorL f fd) (FE : FnE K fE fdE) (GE : FnOk P w K mg base CX0 4 fE fdE psE (spExact C)) (gE : mg "exact" = some (.ref fE))
    (GD : FnOk P w K mg base CX0 1 fD fdD ["_law_pen_here", "_law_many"] spDraw) (bD : L2.Binds K fdD ["_law_pen_here", "_law_many"] []) (kD : PySem.W.keepIn K (.ref fD) = true) (gD : mg "_law_draw" = some (.ref fD))
    (GT : FnOk P w K mg base CX0 3 fT fdT ["_law_a", "_law_u", "_law_b", "_law_v", "_law_c", "_law_w"] spTwo) (bT : L2.Binds K fdT ["_law_a", "_law_u", "_law_b", "_law_v", "_law_c", "_law_w"] []) (kT : PySem.W.keepIn K (.ref fT) = true) (gT : mg "_law_two" = some (.ref fT))
    (GBy : FnOk P w K mg base CX0 2 fB fdB ["_law_one", "_law_up", "_law_under"] spBy) (bBy : L2.Binds K fdB ["_law_one", "_law_up", "_law_under"] []) (kBy : PySem.W.keepIn K (.ref fB) = true) (gBy : mg "_law_by" = some (.ref fB))
    (grange : mg "range" = none) (gabs : mg "abs" = none) (gmin : mg "min" = none) (glist : mg "list" = none) :
    FnOk P w K mg base CX0 5 f fd ["_law_pen_here", "_law_a", "_law_b"] (spLinkL C) := by
  obtain ⟨mvB, kbB⟩ := bEbr FE
  refine F.ok scOneT (fun vs H Q E h => ?_) (fun cdv Ar outer s H vs Q E' hr h => ?_)
  · obtain ⟨_, _, _, _, _, _, rfl, _⟩ := h
    rfl
  obtain ⟨p, c, ms, n, a, b, rfl, hp, n0, n1, a0, a8, b0, b8, q⟩ := h
  have hu := hu_of hr
  have hu' := hr.units
  have hr1 := hr.mono (j := 1) (by decide)
  have hr2 := hr.mono (j := 2) (by decide)
  have hr3 := hr.mono (j := 3) (by decide)
  have hr4 := hr
  refine ⟨_, PSs.nox (C8.pss_cut (ps_set (i := 3) scOneT.nd rfl (.inl rfl) (pe_op op_add (pe_callB call_abs (by rfl) gabs (by decide +kernel) (pa_cons (pe_op op_sub (pv 1) (pv 2)) pa_nil)) (pe_op op_mul pe_int (pe_call GD hr1 (by rfl) gD kD bD .nil pass0 (pa_cons (pv 0) (pa_cons (pe_op op_add (pe_callB (call_min2 rfl) (by rfl) gmin (by decide +kernel) (pa_cons (pv 1) (pa_cons (pv 2) pa_nil))) pe_int) pa_nil))))))
      (C8.pss_cut (ps_par (i := 4) (j := 5) (by rfl) scOneT.nd rfl rfl (by decide) rfl rfl (pa_cons pe_dnewT (pa_cons pe_dnewT pa_nil)) (by rfl))
      (C8.pss_cut (ps_for PassesOwn.never rfl (pi_range3 (by rfl) grange (pa_cons (pe_un un_neg (pv 3)) (pa_cons (pe_op op_add (pv 3) pe_int) (pa_cons pe_int pa_nil)))) (pg_name (i := 6) scOneT.nd rfl (.inl rfl))
        (C8.pss_cut (ps_set (i := 7) scOneT.nd rfl (.inl rfl) (pe_call GD hr1 (by rfl) gD kD bD .nil pass0 (pa_cons (pv 0) (pa_cons pe_int pa_nil))))
      (pss_one (ps_for PassesOwn.never rfl (pi_range3 (by rfl) grange (pa_cons (pe_un un_neg (pv 1)) (pa_cons (pe_op op_add (pv 1) pe_int) (pa_cons pe_int pa_nil)))) (pg_name (i := 8) scOneT.nd rfl (.inl rfl))
        (C8.pss_cut (ps_set (i := 9) scOneT.nd rfl (.inl rfl) (pe_ifExp (pt_cmpR op_le (pe_callB call_abs (by rfl) gabs (by decide +kernel) (pa_cons (pe_op op_add (pv 8) (pv 6)) pa_nil)) (pv 2) (nomark _)) (pe_call GBy hr2 (by rfl) gBy kBy bBy .nil pass0 (pa_cons (pe_call GT hr3 (by rfl) gT kT bT .nil pass0 (pa_cons (pv 1) (pa_cons (pv 8) (pa_cons (pv 3) (pa_cons (pv 6) (pa_cons (pv 2) (pa_cons (pe_op op_add (pv 8) (pv 6)) pa_nil))))))) (pa_cons (pv 7) (pa_cons pe_int pa_nil)))) pe_dnewK))
      (pss_one (ps_if (pt_cmpR (op_neE (Nat.lt_of_succ_lt hu)) (pv 9) pe_dnewK (nomark _)) (C8.pss_cut (ps_dput hu (pv 4) (pe_tup (pa_cons (pe_op op_add (pv 8) (pv 6)) (pa_cons (pv 8) pa_nil))) (pv 9) rfl)
      (C8.pss_cut (ps_set (i := 10) scOneT.nd rfl (.inl rfl) (pe_ix ix_list (pe_callTy (call_listD rfl) (by rfl) glist (by decide +kernel) (pa_cons (pv 9) pa_nil)) pe_int (fun _ _ => rfl)))
      (pss_one (ps_dput hu (pv 5) (pe_tup (pa_cons (pe_op op_add (pv 8) (pv 6)) (pa_cons (pv 8) pa_nil))) (pe_callN GE hr4 (by rfl) gE FE.kp kbB pass0 (pa_cons (pe_ix ix_tup (pe_dget hu (pv 9) (pv 10) (fun _ _ => rfl)) pe_int (fun _ _ => rfl)) pa_nil) (pk_cons (pe_ix ix_tup (pe_dget hu (pv 9) (pv 10) (fun _ _ => rfl)) pe_int (fun _ _ => rfl)) (pk_cons (pv 10) pk_nil))) rfl)))) pss_nil)))))))
      (pss_one (ps_ret (pe_tup (pa_cons (pv 4) (pa_cons (pv 5) pa_nil)))))))), ?_⟩
  -- k
  obtain ⟨m, em, m0, ma, mb⟩ : ∃ m : Int, (if b < a then b else a) = m ∧ 0 ≤ m ∧ m ≤ a ∧ m ≤ b := ⟨_, rfl, by split <;> omega, by split <;> omega, by split <;> omega⟩
  refine ⟨fun σ H1 => ∃ (k n1 : Int), σ = [some (.ref p), some (.int a), some (.int b), some (.int k), none, none, none, none, none, none, none] ∧ 0 ≤ k ∧ k ≤ a + b ∧ a ≤ b + k ∧ b ≤ a + k ∧ (a + b + k) % 2 = 0 ∧ n ≤ n1 ∧ n1 ≤ n + 1 ∧ PenAt H1 p c ms n1 ∧ SameBut p H H1, ?_, fun σ H1 hh => ?_⟩
  · refine ⟨_, rfl, _, rfl, _, _, rfl, rfl, _, rfl, _, rfl, _, rfl, _, rfl, a, b, rfl, ?_⟩
    rw [em]
    refine ⟨m, 1, rfl, rfl, p, c, ms, n, m + 1, rfl, hp, n0, by omega, by omega, Int.lt_of_le_of_lt (b := 64) (by omega) (by decide), fun e n1 G e0 e1 x0 x1 q1 t1 => ?_⟩
    refine ⟨2, e, rfl, rfl, cmul_r (by omega) (by omega), _, _, rfl, rfl, (if a - b < 0 then -(a - b) else a - b) + 2 * e, n1, rfl, ?_⟩
    split <;> exact ⟨by omega, by omega, by omega, by omega, by omega, by omega, by omega, q1, t1⟩
  obtain ⟨k, n1', rfl, k0, kab, akb, bak, ev, y0, y1, hp1, t1⟩ := hh
  have cb : canB a k b = true := by
    unfold canB
    simp only [Bool.and_eq_true, Bool.not_eq_true', decide_eq_true_eq, decide_eq_false_iff_not]
    exact ⟨by omega, by omega, by omega, by omega⟩
  obtain ⟨D, eD⟩ : ∃ D : Nat, prodF (jBe a k b) = D := ⟨_, rfl⟩
  have D0 : 0 < D := by rw [← eD]; exact prodF_pos' _
  have D1 : D < 2 ^ 110 := by rw [← eD]; exact jBe_bd8 a0 a8 k0 (by omega) b0 b8 cb
  -- the dicts
  refine ⟨fun σ H2 => ∃ dS dN : Addr, σ = [some (.ref p), some (.int a), some (.int b), some (.int k), some (.ref dS), some (.ref dN), none, none, none, none, none] ∧ Same H1 H2 ∧ H1 dS = none ∧ H1 dN = none ∧ LkP C H2 dS dN a b [] (fun _ => .non) (fun _ => .non) (fun _ => []) D, ?_, fun σ H2 hh => ?_⟩
  · intro dS hS dN hN
    have s1 := same_upd (o := .dT []) hS
    have s2 := same_upd (o := .dT []) hN
    have ne : dS ≠ dN := ne_of_none upd_same hN
    refine ⟨_, _, rfl, dS, dN, rfl, s1.trans s2, hS, s1.free hN, ⟨⟨s2 _ _ upd_same, (fun k hk => by cases hk)⟩, ⟨upd_same, List.nodup_nil, (fun k hk => by cases hk), (fun k hk => by cases hk)⟩, ne⟩⟩
  obtain ⟨dS, dN, rfl, s1, hS, hN, lk⟩ := hh
  have B0 : LnkB [] (fun _ => ([] : List Part)) D := ⟨D0, D1, fun k hk => by cases hk⟩
  refine ⟨fun σ H2 => ∃ (ks : List (Int × Int)) (fs fv : Int × Int → V) (N : Int × Int → List Part) (n' : Int) (v6 v7 v8 v9 v10 : Option V), σ = [some (.ref p), some (.int a), some (.int b), some (.int k), some (.ref dS), some (.ref dN), v6, v7, v8, v9, v10] ∧ LkP C H2 dS dN a b ks fs fv N D ∧ LnkB ks N D ∧ ks.length ≤ 200 ∧ n1' ≤ n' ∧ n' ≤ n1' + 17 ∧ PenAt H2 p c ms n' ∧ SameBut p H1 H2, ?_, fun σ H2 hh => ?_⟩
  rotate_left
  · obtain ⟨ks, fs, fv, N, n', v6, v7, v8, v9, v10, rfl, lk2, B2, l2, m0, m1, p2, sb2⟩ := hh
    refine ⟨_, rfl, _, rfl, by show 2 ≤ sizeLine; decide, fun t ht => ?_⟩
    have st := same_upd (o := .tup [.ref dS, .ref dN]) ht
    exact q t dS dN ks fs fv N D n' _ upd_same (lk2.same st) B2 l2 (by omega) (by omega) (p2.same st) ((t1.trans sb2).trans (Same.but st))
  refine ⟨_, rfl, _, rfl, _, rfl, _, _, rfl, rfl, -k, k + 1, 2, k.toNat + 1, rfl, ⟨by decide, by decide, small2 (by omega) (by omega) (by omega) (by omega), size2 (by omega) (by omega)⟩, ?_⟩
  refine for_rangeC (lo := -k) (c := 2) (n := k.toNat + 1) (fun i σ G => ∃ (ks : List (Int × Int)) (fs fv : Int × Int → V) (N : Int × Int → List Part) (n' : Int) (v6 v7 v8 v9 v10 : Option V), σ = [some (.ref p), some (.int a), some (.int b), some (.int k), some (.ref dS), some (.ref dN), v6, v7, v8, v9, v10] ∧ LkP C G dS dN a b ks fs fv N D ∧ LnkB ks N D ∧ ks.length ≤ 9 * i ∧ (∀ x ∈ ks, x.1 - x.2 < -k + 2 * (i : Int)) ∧ n1' ≤ n' ∧ n' ≤ n1' + i ∧ PenAt G p c ms n' ∧ SameBut p H1 G)
    ⟨[], _, _, _, n1', none, none, none, none, none, rfl, lk, B0, Nat.le_refl _, (fun x hx => by cases hx), by omega, by omega, hp1.same s1, Same.but s1⟩ (fun i σ G hi hP => ?_) (fun σ G hP => ?_)
  rotate_left
  · obtain ⟨ks, fs, fv, N, n', v6, v7, v8, v9, v10, rfl, lk2, B2, l2, _, m0, m1, p2, sb2⟩ := hP
    exact ⟨ks, fs, fv, N, n', v6, v7, v8, v9, v10, rfl, lk2, B2, by omega, m0, by omega, p2, sb2⟩
  obtain ⟨ks, fs, fv, N, n', v6, v7, v8, v9, v10, rfl, lk2, B2, l2, o2, m0, m1, p2, sb2⟩ := hP
  obtain ⟨qq, eq⟩ : ∃ v : Int, -k + ((i : Nat) : Int) * 2 = v := ⟨_, rfl⟩
  rw [eq]
  -- up
  refine ⟨fun σ G2 => ∃ (up n2 : Int), σ = [some (.ref p), some (.int a), some (.int b), some (.int k), some (.ref dS), some (.ref dN), some (.int qq), some (.int up), v8, v9, v10] ∧ 0 ≤ up ∧ up ≤ 2 ∧ n' ≤ n2 ∧ n2 ≤ n' + 1 ∧ PenAt G2 p c ms n2 ∧ SameBut p G G2, ?_, fun σ G2 hh => ?_⟩
  · refine ⟨_, rfl, p, c, ms, n', 3, rfl, p2, by omega, by omega, by decide, by decide, fun e n2 G2 e0 e1 x0 x1 q1 t1 => ⟨e, n2, rfl, e0, by omega, x0, x1, q1, t1⟩⟩
  obtain ⟨up, n2, rfl, u0, u2, z0, z1, q2, t2⟩ := hh
  have lkU := lk2.but t2 p2
  have sbU := sb2.trans t2
  refine ⟨_, rfl, _, rfl, _, rfl, _, _, rfl, rfl, -a, a + 1, 2, a.toNat + 1, rfl, ⟨by decide, by decide, small2 (by omega) (by omega) (by omega) (by omega), size2 (by omega) (by omega)⟩, ?_⟩
  refine for_rangeC (lo := -a) (c := 2) (n := a.toNat + 1) (fun j σ G' => ∃ (ks : List (Int × Int)) (fs fv : Int × Int → V) (N : Int × Int → List Part) (v8 v9 v10 : Option V), σ = [some (.ref p), some (.int a), some (.int b), some (.int k), some (.ref dS), some (.ref dN), some (.int qq), some (.int up), v8, v9, v10] ∧ LkP C G' dS dN a b ks fs fv N D ∧ LnkB ks N D ∧ ks.length ≤ 9 * i + j ∧ (∀ x ∈ ks, x.1 - x.2 < qq ∨ (x.1 - x.2 = qq ∧ x.2 < -a + 2 * (j : Int))) ∧ PenAt G' p c ms n2 ∧ SameBut p H1 G')
    ⟨ks, fs, fv, N, v8, v9, v10, rfl, lkU, B2, by omega, fun x hx => .inl (by have := o2 x hx; omega), q2, sbU⟩ (fun j σ G' hj hP => ?_) (fun σ G' hP => ?_)
  rotate_left
  · obtain ⟨ks, fs, fv, N, v8, v9, v10, rfl, lk2, B2, l2, o2, p2, sb2⟩ := hP
    refine ⟨ks, fs, fv, N, n2, _, _, v8, v9, v10, rfl, lk2, B2, by omega, fun x hx => ?_, by omega, by omega, p2, sb2⟩
    rcases o2 x hx with z | ⟨z, _⟩ <;> omega
  clear lk2 lkU B2 l2 o2 p2 sb2 sbU v8 v9 v10 ks fs fv N
  obtain ⟨ks, fs, fv, N, v8, v9, v10, rfl, lk2, B2, l2, o2, p2, sb2⟩ := hP
  obtain ⟨v, ev'⟩ : ∃ x : Int, -a + ((j : Nat) : Int) * 2 = x := ⟨_, rfl⟩
  rw [ev']
  have kn : (v + qq, v) ∉ ks := fun m => by
    rcases o2 _ m with z | ⟨_, z⟩ <;> dsimp only at z <;> omega
  have Pv : PairP a v := ⟨a0, by omega, by omega, by omega, by omega⟩
  have Pq : PairP k qq := ⟨k0, by omega, by omega, by omega, by omega⟩
  -- part
  refine ⟨fun σ G3 => ∃ (dp : Addr) (kr : List Int) (g : Int → Rat), σ = [some (.ref p), some (.int a), some (.int b), some (.int k), some (.ref dS), some (.ref dN), some (.int qq), some (.int up), some (.int v), some (.ref dp), v10] ∧ Same G' G3 ∧ G' dp = none ∧ DictAt G3 dp kr g ∧ Clear kr g ∧ kr.length ≤ 1 ∧ (kr ≠ [] → PairP b (v + qq) ∧ g = fun r => TCR.val (joinL a v k qq b (v + qq)) r * Rat.divInt up 1), ?_, fun σ G3 hh => ?_⟩
  · refine ⟨_, rfl, _, rfl, _, _, rfl, rfl, v + qq, rfl, _, rfl, _, _, rfl, rfl, _, rfl, ?_⟩
    by_cases hb : (if v + qq < 0 then -(v + qq) else v + qq) ≤ b
    rotate_left
    · refine iteD0 hb fun dp hdp => ⟨dp, [], fun _ => 0, rfl, same_upd hdp, hdp, ⟨[], upd_same, rfl, (fun r hr => by cases hr), List.nodup_nil, fun r _ => rfl⟩, (fun r hr => by cases hr), by decide, fun z => absurd rfl z⟩
    refine iteD1 hb ?_
    have Pw : PairP b (v + qq) := ⟨b0, by omega, by split at hb <;> omega, by split at hb <;> omega, by omega⟩
    obtain ⟨JF, _⟩ := join_fit8 Pv Pq Pw a8 (by omega) b8 cb
    rw [eD] at JF
    refine ⟨_, rfl, _, rfl, _, rfl, _, rfl, _, rfl, _, rfl, _, rfl, _, _, rfl, rfl, a, v, k, qq, b, v + qq, rfl, Pv, Pq, Pw, fun d0 kr0 G4 s4 _ hd4 cl4 l4 => ?_⟩
    refine ⟨_, rfl, d0, kr0, _, up, 1, 1156, rfl, hd4, fun r => ?_, by decide, Nat.lt_of_le_of_lt (show up.natAbs ≤ 2 by omega) (by decide +kernel), by decide +kernel, by decide, by decide, Nat.le_trans l4 (by decide), fun d' kr' G5 s5 hd' hD' cl' l' _ => ⟨d', kr', _, rfl, s4.trans s5, s4.free hd', hD', cl', Nat.le_trans l' l4, fun _ => ⟨Pw, rfl⟩⟩⟩
    exact ⟨JF.val r, Nat.lt_of_le_of_lt (Nat.le_of_dvd D0 (JF.vden r)) (Nat.lt_of_lt_of_le D1 (Nat.pow_le_pow_right (by decide) (by decide)))⟩
  obtain ⟨dp, kr, g, rfl, s3, hdp, hDp, clp, lp, hg⟩ := hh
  have lk3 := lk2.same s3
  have p3 := p2.same s3
  have sb3 := sb2.trans (Same.but s3)
  refine ⟨_, rfl, fun de hde => ?_⟩
  have se := same_upd (o := .dK []) hde
  obtain ⟨kvp, hk1, hk2, hk3, hk4, hk5⟩ := id (hDp.same se)
  have kl : kvp.length = kr.length := by
    have := congrArg List.length hk2
    simpa using this
  refine ⟨dp, de, kvp, rfl, rfl, hk1, upd_same, _, rfl, ?_⟩
  match kr, hDp, clp, lp, hg, hk2, hk3, hk4, hk5, kl with
  | [], _, _, _, _, _, _, _, _, kl =>
    have z : decide (kvp.length = 0) = true := decide_eq_true kl
    rw [z]
    exact ⟨ks, fs, fv, N, _, _, _, rfl, lk3.same se, B2, by omega, fun y hy => (o2 y hy).elim .inl fun w2 => .inr ⟨w2.1, by have := w2.2; omega⟩, p3.same se, sb3.trans (Same.but se)⟩
  | _ :: _ :: _, _, _, lp, _, _, _, _, _, _ => exact absurd lp (by simp)
  | [r], hDp, clp, lp, hg, hk2, hk3, hk4, hk5, kl =>
    have z : decide (kvp.length = 0) = false := decide_eq_false (by rw [kl]; simp)
    rw [z]
    obtain ⟨Pw, eg⟩ := hg (by simp)
    subst eg
    obtain ⟨x, ex⟩ : ∃ x : Rat, TCR.val (joinL a v k qq b (v + qq)) r * Rat.divInt up 1 = x := ⟨_, rfl⟩
    have x0 : x ≠ 0 := by rw [← ex]; exact clp r (by simp)
    obtain ⟨RS, ev1, ft⟩ := one_part Pv Pq Pw a8 (by omega) b8 cb u0 u2 ex x0
    rw [eD] at ft
    have dd : x.den ∣ D := by
      have := ft.vden r
      rw [ev1, ex] at this
      exact this
    obtain ⟨L, eL⟩ : ∃ L, oneL r x.num (x.den : Int) = L := ⟨_, rfl⟩
    have lL : L.length ≤ 1 := by rw [← eL]; exact len_oneL _ _ _
    rw [eL] at ev1 ft
    have hDe := (hDp.same se).imp fun s => (ev1 s).symm
    have clL : Clear [r] (TCR.val L) := fun s hs => by
      rw [ev1]
      exact clp s hs
    have xr : TCR.val L r = x := (ev1 r).trans ex
    have lke := lk3.same se
    have pe' := p3.same se
    have sbe := sb3.trans (Same.but se)
    -- the dict
    refine ⟨fun σ G4 => σ = [some (.ref p), some (.int a), some (.int b), some (.int k), some (.ref dS), some (.ref dN), some (.int qq), some (.int up), some (.int v), some (.ref dp), v10] ∧ SmkAt G4 dS (ks ++ [(v + qq, v)]) (setVal fs (v + qq, v) (.ref dp)) (setN N (v + qq, v) L) ∧ LnkAt C G4 dN a b ks fv N ∧ DictAt G4 dp [r] (TCR.val L) ∧ PenAt G4 p c ms n2 ∧ SameBut p H1 G4, ?_, fun σ G4 hh => ?_⟩
    · refine ⟨_, rfl, _, rfl, _, rfl, _, rfl, _, _, rfl, rfl, _, rfl, by show 2 ≤ sizeLine; decide, fun t ht => ?_⟩
      have st := same_upd (o := .tup [.int (v + qq), .int v]) ht
      have lk6 := lke.same st
      refine ⟨dS, _, rfl, dput_entT (r := (v + qq, v)) kP_inj lk6.s.at_ upd_same (Nat.lt_of_le_of_lt (m := 300) (by omega) (by decide)), rfl, lk6.s.put kn (hDe.same st) clL (Nat.le_refl _), lk6.n.updT lk6.s.at_ lk6.ne.symm, (hDe.same st).updT lk6.s.at_, (pe'.same st).updT lk6.s.at_, fun b' o' nb hb => ?_⟩
      rw [upd_ne fun z => by rw [z, hS] at hb; cases hb]
      exact st _ _ (sbe _ _ nb hb)
    obtain ⟨rfl, hS4, hN4, hD4, q4, sb4⟩ := hh
    -- the root
    refine ⟨fun σ G5 => σ = [some (.ref p), some (.int a), some (.int b), some (.int k), some (.ref dS), some (.ref dN), some (.int qq), some (.int up), some (.int v), some (.ref dp), some (.int r)] ∧ Same G4 G5, ?_, fun σ G5 hh => ?_⟩
    · obtain ⟨kv4, e1, e2, _⟩ := id hD4
      refine ⟨_, rfl, dp, kv4, rfl, Rd.of e1, fun l hl => ?_⟩
      have ek : (kv4.map fun kv => kV kv.1) = [V.int r] := by
        have : (kv4.map (·.1)).map kV = [V.int r] := by rw [e2]; rfl
        rw [List.map_map] at this
        exact this
      refine ⟨l, _, 0, _, rfl, rfl, SqL.of upd_same, by rw [ek]; exact atI_nat (j := 0) rfl, rfl, same_upd hl⟩
    obtain ⟨rfl, s5⟩ := hh
    have hS5 := hS4.same s5
    have hN5 := hN4.same s5
    have hD5 := hD4.same s5
    have q5 := q4.same s5
    obtain ⟨kv5, f1, _, f3, _⟩ := hD5
    obtain ⟨u, fu, hu5⟩ := f3 r (by simp)
    rw [xr] at hu5
    -- the number
    refine ⟨_, rfl, _, rfl, dp, _, rfl, dget_in f1 fu, u, _, 0, _, rfl, rfl, SqT.of hu5, atI_nat (j := 0) rfl, ?_⟩
    refine ⟨_, rfl, _, rfl, dp, _, rfl, dget_in f1 fu, u, _, 1, _, rfl, rfl, SqT.of hu5, atI_nat (j := 1) rfl, ?_⟩
    have dn0 : ((x.den : Nat) : Int) ≠ 0 := by have := x.den_pos; omega
    refine ⟨_, rfl, rfl, rfl, x.num, (x.den : Int), r, 110, rfl, dn0, by rw [Int.natAbs_natCast]; exact Nat.lt_of_le_of_lt (Nat.le_of_dvd D0 dd) D1, by decide, by decide, RS.ok, fun y G6 s6 hy hNy => ?_⟩
    rw [rtS_ex RS, eL] at hNy
    refine ⟨_, rfl, _, rfl, _, rfl, _, _, rfl, rfl, _, rfl, by show 2 ≤ sizeLine; decide, fun t ht => ?_⟩
    have st := same_upd (o := .tup [.int (v + qq), .int v]) ht
    have hN7 := (hN5.same s6).same st
    have hS7 := (hS5.same s6).same st
    refine ⟨dN, _, rfl, dput_entT (r := (v + qq, v)) kP_inj hN7.at_ upd_same (Nat.lt_of_le_of_lt (m := 300) (by omega) (by decide)), ks ++ [(v + qq, v)], _, _, _, _, _, _, rfl, ⟨hS7.updT hN7.at_ lk.ne, hN7.put kn Pw Pv (hNy.same st), lk.ne⟩, B2.put kn ft lL, ?_, fun y' hy' => ?_, ((q5.same s6).same st).updT hN7.at_, fun b' o' nb hb => ?_⟩
    · rw [List.length_append]
      have : ([(v + qq, v)] : List (Int × Int)).length = 1 := rfl
      omega
    · rcases List.mem_append.mp hy' with m | m
      · rcases o2 y' m with w' | ⟨w', w2⟩
        · exact .inl w'
        · exact .inr ⟨w', by omega⟩
      · rw [List.mem_singleton.mp m]
        exact .inr ⟨(by show v + qq - v = qq; omega), by show v < _; omega⟩
    · rw [upd_ne fun z => by rw [z, hN] at hb; cases hb]
      exact st _ _ (s6 _ _ (s5 _ _ (sb4 _ _ nb hb)))
end
end TC
namespace TC
set_option exponentiation.threshold 20000
open PySem PySem.Spec PyProof.Rows L2 TCA TCX
/-! ### K60LJ: _law_due -/
structure DueAt (H : Hp) (us : List Addr) (L : List ((Int × Int) × List Part)) : Prop where
  len : us.length = L.length
  at_ : ∀ (i : Nat) (u : Addr) (y : (Int × Int) × List Part), us[i]? = some u → L[i]? = some y → ∃ x, H u = some (.tup [.int y.1.1, .int y.1.2, .ref x]) ∧ PartsL H x y.2
theorem PartsL.upd0 {H : Hp} {d x : Addr} {L : List Part} {u o : HO} (e : H d = some u) (h1 : ∀ xs, u ≠ .tup xs) (h : PartsL H x L) : PartsL (upd H d o) x L := by
  obtain ⟨us, a2, a3⟩ := h
  refine ⟨us, by rw [upd_ne fun z => by rw [z, e] at a2; exact h1 _ (Option.some.inj a2)]; exact a2, Refs.upd (fun x z => ?_) a3⟩
  rw [e] at z
  exact h1 _ (Option.some.inj z)
theorem DueAt.nil (H : Hp) : DueAt H [] [] := ⟨rfl, fun i u y h => by simp at h⟩
theorem DueAt.same {H H' : Hp} {us : List Addr} {L : List ((Int × Int) × List Part)} (h : DueAt H us L) (s : Same H H') : DueAt H' us L := ⟨h.len, fun i u y hu hy => by
  obtain ⟨x, e, n⟩ := h.at_ i u y hu hy
  exact ⟨x, s _ _ e, n.same s⟩⟩
theorem DueAt.updLs {H : Hp} {us : List Addr} {L : List ((Int × Int) × List Part)} {l : Addr} {o : HO} {ys : List V} (h : DueAt H us L) (hl : H l = some (.lst ys)) : DueAt (upd H l o) us L := ⟨h.len, fun i u y hu hy => by
  obtain ⟨x, e, n⟩ := h.at_ i u y hu hy
  exact ⟨x, by rw [upd_ne fun z => by rw [z, hl] at e; cases e]; exact e, n.upd0 hl (fun xs z => by cases z)⟩⟩
theorem DueAt.snoc {H : Hp} {us : List Addr} {L : List ((Int × Int) × List Part)} {u x : Addr} {y : (Int × Int) × List Part} (h : DueAt H us L) (e : H u = some (.tup [.int y.1.1, .int y.1.2, .ref x])) (n : PartsL H x y.2) : DueAt H (us ++ [u]) (L ++ [y]) := by
  refine ⟨by rw [List.length_append, List.length_append, h.len]; rfl, fun i u' y' hu hy => ?_⟩
  by_cases z : i < us.length
  · rw [List.getElem?_append_left z] at hu
    rw [List.getElem?_append_left (by rw [← h.len]; exact z)] at hy
    exact h.at_ i u' y' hu hy
  · have il : i < (us ++ [u]).length := (List.getElem?_eq_some_iff.mp hu).1
    rw [List.length_append] at il
    have ei : i = us.length := by
      have : ([u] : List Addr).length = 1 := rfl
      omega
    rw [ei, List.getElem?_append_right (Nat.le_refl _), Nat.sub_self] at hu
    rw [ei, h.len, List.getElem?_append_right (Nat.le_refl _), Nat.sub_self] at hy
    cases hu
    cases hy
    exact ⟨x, e, n⟩
theorem DictAt.updF {H : Hp} {d x : Addr} {o : HO} {od : Obj} {u : HO} {ks : List Int} {g : Int → Rat} (hd : H d = some (.frz od u)) (h : DictAt H x ks g) : DictAt (upd H d o) x ks g := by
  obtain ⟨kv, h1, h2, h3, h4⟩ := h
  refine ⟨kv, by rw [upd_ne fun e => by rw [e, hd] at h1; cases h1]; exact h1, h2, fun r hr => ?_, h4⟩
  obtain ⟨u, a, b⟩ := h3 r hr
  exact ⟨u, a, by rw [upd_ne fun e => by rw [e, hd] at b; cases b]; exact b⟩
theorem DictAt.cov {H : Hp} {d : Addr} {ks : List Int} {g : Int → Rat} (h : DictAt H d ks g) : Cov g ks := by
  obtain ⟨_, _, _, _, h4, h5⟩ := h
  exact ⟨h4, fun r hr => Classical.byContradiction fun z => hr (h5 r z)⟩
/-- the keys of one q -/
def pq (q : Int) (x : Int × Int) : Bool := decide (x.2 + q = x.1)
theorem plcL_nd (q a b : Int) (n : Nat) : (plcL q a b n).Nodup := by
  unfold plcL
  refine List.Pairwise.filter _ ?_
  refine List.Pairwise.map _ (fun i j hij => ?_) (List.nodup_range (n := n))
  intro e
  have := congrArg Prod.snd e
  dsimp only at this
  omega
theorem fl_perm {ks : List (Int × Int)} {a b : Int} (nd : ks.Nodup) (off : ∀ k ∈ ks, PairP b k.1 ∧ PairP a k.2) (q : Int) : (ks.filter (pq q)).Perm ((plcL q a b (a.toNat + 1)).filter (inK ks)) := by
  refine (List.perm_ext_iff_of_nodup (List.Pairwise.filter _ nd) (List.Pairwise.filter _ (plcL_nd _ _ _ _))).mpr fun x => ?_
  rw [List.mem_filter, List.mem_filter]
  constructor
  · rintro ⟨h1, h2⟩
    have e := of_decide_eq_true h2
    obtain ⟨P1, P2⟩ := off x h1
    refine ⟨?_, decide_eq_true h1⟩
    unfold plcL
    obtain ⟨p0, p1, p2, p3, p4⟩ := P1
    obtain ⟨o0, o1, o2, o3, o4⟩ := P2
    refine List.mem_filter.mpr ⟨List.mem_map.mpr ⟨((x.2 + a) / 2).toNat, List.mem_range.mpr (by omega), ?_⟩, decide_eq_true ⟨p2, p3⟩⟩
    have e2 : -a + ((((x.2 + a) / 2).toNat : Nat) : Int) * 2 = x.2 := by omega
    rw [e2, e]
  · rintro ⟨h1, h2⟩
    exact ⟨of_decide_eq_true h2, decide_eq_true (plcL_mem h1).2.1.symm⟩
theorem fl_len {ks : List (Int × Int)} {a b : Int} (nd : ks.Nodup) (off : ∀ k ∈ ks, PairP b k.1 ∧ PairP a k.2) (q : Int) (a0 : 0 ≤ a) (a8 : a ≤ 8) (i : Nat) : ((ks.take i).filter (pq q)).length ≤ 9 := by
  refine Nat.le_trans (((List.take_sublist i ks).filter _).length_le) ?_
  rw [(fl_perm nd off q).length_eq]
  refine Nat.le_trans (List.length_filter_le _ _) (Nat.le_trans (plcL_len _ _ _ _) (by omega))
theorem fl_snoc {ks : List (Int × Int)} {i : Nat} {x : Int × Int} (q : Int) (h : ks[i]? = some x) : (ks.take (i + 1)).filter (pq q) = (ks.take i).filter (pq q) ++ (if x.2 + q = x.1 then [x] else []) := by
  rw [List.take_add_one, h]
  show (ks.take i ++ [x]).filter (pq q) = _
  rw [List.filter_append]
  congr 1
  by_cases z : x.2 + q = x.1
  · have e : pq q x = true := decide_eq_true z
    rw [if_pos z, List.filter_cons_of_pos e]
    rfl
  · have e : ¬ pq q x = true := fun y => z (of_decide_eq_true y)
    rw [if_neg z, List.filter_cons_of_neg e]
    rfl
theorem lo_prod {D P X Y Z : Nat} {g1 g2 : Int → Rat} (L1 : Lo D X g1) (L2 : Lo P Y g2) : ∀ {kr kj : List Int}, kr.length ≤ 1 → kj.length ≤ 1 → (∀ r ∈ kr, ∀ s ∈ kj, Int.gcd r s ≤ Z) → Lo (D * P) (X * Y * Z) (prodG kr kj g1 g2)
  | [], _, _, _, _ => fun u => ⟨0, by show (0 : Rat) * _ = _; rw [Rat.zero_mul]; rfl, Nat.zero_le _⟩
  | [r], [], _, _, _ => fun u => ⟨0, by show ((0 : Rat) + 0) * _ = _; rw [Rat.add_zero, Rat.zero_mul]; rfl, Nat.zero_le _⟩
  | [r], [s], _, _, h => fun u => by
    show ∃ t : Int, (((if mulR r s = u then g1 r * g2 s * ((gR r s : Int) : Rat) else 0) + 0) + 0) * (((D * P : Nat) : Nat) : Rat) = (t : Rat) ∧ _
    rw [Rat.add_zero, Rat.add_zero]
    by_cases e : mulR r s = u
    · obtain ⟨t1, e1, l1⟩ := L1 r
      obtain ⟨t2, e2, l2⟩ := L2 s
      refine ⟨t1 * t2 * gR r s, ?_, ?_⟩
      · rw [if_pos e, Rat.intCast_mul, Rat.intCast_mul, ← e1, ← e2, Rat.natCast_mul]
        grind
      · rw [Int.natAbs_mul, Int.natAbs_mul]
        exact Nat.mul_le_mul (Nat.mul_le_mul l1 l2) (h r (by simp) s (by simp))
    · exact ⟨0, by rw [if_neg e, Rat.zero_mul]; rfl, Nat.zero_le _⟩
  | _ :: _ :: _, _, h, _, _ => absurd h (by simp)
  | [_], _ :: _ :: _, _, h, _ => absurd h (by simp)
theorem Fit.rt {D A R : Nat} {L : List Part} (h : Fit D A R L) {r : Int} (z : TCR.val L r ≠ 0) : 0 < r ∧ r.natAbs < 2 ^ R := by
  rcases Classical.em (∃ q, (r, q) ∈ L) with ⟨q, y⟩ | y
  · exact h.pos _ y
  · exact absurd (TCR.val_not fun x hx e => y ⟨x.2, by rw [← e]; exact hx⟩) z
section
variable {P : Program} {w : World} {K : PySem.W.Frag} {mg : Str → Option Value} {base : Heap} {f : Addr} {fd : FuncData} {C fI fQ : Addr}
def spDue : Sp := fun vs H Q _ => ∃ (d : Addr) (a b : Int) (ks : List (Int × Int)) (fs : Int × Int → V) (N : Int × Int → List Part) (D : Nat), vs = [.ref d, .int a, .int b] ∧ SmkAt H d ks fs N ∧ ks.Nodup ∧ (∀ k ∈ ks, PairP b k.1 ∧ PairP a k.2) ∧ LnkB ks N D ∧ 0 ≤ a ∧ a ≤ 8 ∧ 0 ≤ b ∧ b ≤ 8 ∧
  ∀ l us H', Same H H' → H l = none → H' l = some (.lst (us.map V.ref)) → DueAt H' us (rowsL ks N a b (kqL a b (mAB a b + 1))) → Q (.ref l) H'
abbrev nDue : List Str := ["_law_some", "_law_a", "_law_b", "_law_found", "_law_k", "_law_q", "_law_total", "_law_w", "_law_v"]
theorem scDue : FnScope nDue ["_law_some", "_law_a", "_law_b"] (defScope sDueL) := ⟨rfl, rfl, rfl, by decide +kernel, rfl, by decide +kernel, by decide +kernel⟩
set_option maxHeartbeats 0 in
theorem ok_due {fS fP fT fB fPt : Addr} {fdS fdP fdT fdB fdPt : FuncData} (F : FnP K "_law_due" sDueL f fd)
    (GS : FnOk P w K mg base CX0 2 fS fdS ["_law_one", "_law_other"] spSum) (bS : L2.Binds K fdS ["_law_one", "_law_other"] []) (kS : PySem.W.keepIn K (.ref fS) = true) (gS : mg "_law_sum" = some (.ref fS))
    (GPr : FnOk P w K mg base CX0 3 fP fdP ["_law_one", "_law_other"] spProduct) (bPr : L2.Binds K fdP ["_law_one", "_law_other"] []) (kPr : PySem.W.keepIn K (.ref fP) = true) (gPr : mg "_law_product" = some (.ref fP))
    (GT : FnOk P w K mg base CX0 3 fT fdT ["_law_a", "_law_u", "_law_b", "_law_v", "_law_c", "_law_w"] spTwo) (bT : L2.Binds K fdT ["_law_a", "_law_u", "_law_b", "_law_v", "_law_c", "_law_w"] []) (kT : PySem.W.keepIn K (.ref fT) = true) (gT : mg "_law_two" = some (.ref fT))
    (GBy : FnOk P w K mg base CX0 2 fB fdB ["_law_one", "_law_up", "_law_under"] spBy) (bBy : L2.Binds K fdB ["_law_one", "_law_up", "_law_under"] []) (kBy : PySem.W.keepIn K (.ref fB) = true) (gBy : mg "_law_by" = some (.ref fB))
    (GPt : FnOk P w K mg base CX0 1 fPt fdPt ["_law_some"] spParts) (bPt : L2.Binds K fdPt ["_law_some"] []) (kPt : PySem.W.keepIn K (.ref fPt) = true) (gPt : mg "_law_parts" = some (.ref fPt))
    (grange : mg "range" = none) (gabs : mg "abs" = none) :
    FnOk P w K mg base CX0 4 f fd ["_law_some", "_law_a", "_law_b"] spDue := by
  refine F.ok scDue (fun vs H Q E h => ?_) (fun cdv Ar outer s H vs Q E' hr h => ?_)
  · obtain ⟨_, _, _, _, _, _, _, rfl, _⟩ := h
    rfl
  obtain ⟨d, a, b, ks, fs, N, D, rfl, hL, nd, off, hB, a0, a8, b0, b8, q⟩ := h
  have hu := hu_of hr
  have hr1 := hr.mono (j := 1) (by decide)
  have hr2 := hr.mono (j := 2) (by decide)
  have hr3 := hr
  refine ⟨_, PSs.nox (C8.pss_cut (ps_set (i := 3) scDue.nd rfl (.inl rfl) (pe_lst pa_nil))
      (C8.pss_cut (ps_for PassesOwn.never rfl (pi_range3 (by rfl) grange (pa_cons (pe_callB call_abs (by rfl) gabs (by decide +kernel) (pa_cons (pe_op op_sub (pv 1) (pv 2)) pa_nil)) (pa_cons (pe_op op_add (pe_op op_add (pv 1) (pv 2)) pe_int) (pa_cons pe_int pa_nil)))) (pg_name (i := 4) scDue.nd rfl (.inl rfl))
        (pss_one (ps_for PassesOwn.never rfl (pi_range3 (by rfl) grange (pa_cons (pe_un un_neg (pv 4)) (pa_cons (pe_op op_add (pv 4) pe_int) (pa_cons pe_int pa_nil)))) (pg_name (i := 5) scDue.nd rfl (.inl rfl))
        (C8.pss_cut (ps_set (i := 6) scDue.nd rfl (.inl rfl) pe_dnewK)
      (C8.pss_cut (ps_lock (ps_for PassesOwn.never rfl (pi_keys (pv 0)) (pg_tup rfl (pgs_cons (pg_name (i := 7) scDue.nd rfl (.inl rfl)) (pgs_cons (pg_name (i := 8) scDue.nd rfl (.inl rfl)) pgs_nil)))
        (pss_one (ps_if (pt_cmpR op_eq (pe_op op_add (pv 8) (pv 5)) (pv 7) (nomark _)) (pss_one (ps_set (i := 6) scDue.nd rfl (.inl rfl) (pe_call GS hr2 (by rfl) gS kS bS .nil pass0 (pa_cons (pv 6) (pa_cons (pe_call GPr hr3 (by rfl) gPr kPr bPr .nil pass0 (pa_cons (pe_dget hu (pv 0) (pe_tup (pa_cons (pv 7) (pa_cons (pv 8) pa_nil))) (fun _ _ => rfl)) (pa_cons (pe_call GT hr3 (by rfl) gT kT bT .nil pass0 (pa_cons (pv 1) (pa_cons (pv 8) (pa_cons (pv 4) (pa_cons (pv 5) (pa_cons (pv 2) (pa_cons (pv 7) pa_nil))))))) pa_nil))) pa_nil))))) pss_nil))))
      (C8.pss_cut (ps_set (i := 6) scDue.nd rfl (.inl rfl) (pe_call GBy hr2 (by rfl) gBy kBy bBy .nil pass0 (pa_cons (pv 6) (pa_cons (pe_op op_add (pv 4) pe_int) (pa_cons (pe_op op_add (pv 2) pe_int) pa_nil)))))
      (pss_one (ps_if (pt_cmpR (op_neE (Nat.lt_of_succ_lt hu)) (pv 6) pe_dnewK (nomark _)) (pss_one (ps_expr (pe_bm PySem.F.plainAttrs_list PySem.F.slot_list_append PySem.F.type_list_append mt_append (pv 3) (pa_cons (pe_tup (pa_cons (pv 4) (pa_cons (pv 5) (pa_cons (pe_call GPt hr1 (by rfl) gPt kPt bPt .nil pass0 (pa_cons (pv 6) pa_nil)) pa_nil)))) pa_nil)))) pss_nil))))))))
      (pss_one (ps_ret (pv 3))))), ?_⟩
  have lo0 : 0 ≤ lo8 a b ∧ lo8 a b ≤ 8 := by unfold lo8; split <;> omega
  have mab : ((mAB a b : Nat) : Int) ≤ 8 ∧ lo8 a b + 2 * (mAB a b : Nat) = a + b := by unfold lo8 mAB; split <;> split <;> omega
  refine ⟨fun σ H2 => ∃ l : Addr, σ = [some (.ref d), some (.int a), some (.int b), some (.ref l), none, none, none, none, none] ∧ Same H H2 ∧ H l = none ∧ H2 l = some (.lst []), ⟨by show 0 ≤ sizeLine; decide, fun l hl => ⟨l, rfl, same_upd hl, hl, upd_same⟩⟩, fun σ H2 hh => ?_⟩
  obtain ⟨l, rfl, s2, hl, hl2⟩ := hh
  refine ⟨fun σ H3 => ∃ (us : List Addr) (v4 v5 v6 v7 v8 : Option V), σ = [some (.ref d), some (.int a), some (.int b), some (.ref l), v4, v5, v6, v7, v8] ∧ Same H H3 ∧ H3 l = some (.lst (us.map V.ref)) ∧ DueAt H3 us (rowsL ks N a b (kqL a b (mAB a b + 1))), ?_, fun σ H3 hh => ?_⟩
  rotate_left
  · obtain ⟨us, v4, v5, v6, v7, v8, rfl, s3, hl3, hR⟩ := hh
    exact ⟨_, rfl, q l us _ s3 hl hl3 hR⟩
  refine ⟨_, rfl, _, rfl, _, _, rfl, rfl, _, rfl, _, rfl, _, rfl, _, _, rfl, rfl, _, _, rfl, rfl, lo8 a b, a + b + 1, 2, mAB a b + 1, rfl, ⟨by decide, by decide, small2 (by omega) (by omega) (by omega) (by omega), size2 (by omega) (by omega)⟩, ?_⟩
  refine for_rangeC (lo := lo8 a b) (c := 2) (n := mAB a b + 1) (fun i σ G => ∃ (us : List Addr) (v4 v5 v6 v7 v8 : Option V), σ = [some (.ref d), some (.int a), some (.int b), some (.ref l), v4, v5, v6, v7, v8] ∧ Same H G ∧ G l = some (.lst (us.map V.ref)) ∧ DueAt G us (rowsL ks N a b (kqL a b i)))
    ⟨[], none, none, none, none, none, rfl, s2, hl2, DueAt.nil _⟩ (fun i σ G il hP => ?_) (fun σ G hP => hP)
  obtain ⟨us, v4, v5, v6, v7, v8, rfl, sG, hG, hR⟩ := hP
  obtain ⟨k, ek⟩ : ∃ k : Int, lo8 a b + ((i : Nat) : Int) * 2 = k := ⟨_, rfl⟩
  rw [ek]
  have cj : canB a k b = true := canB_iff.mpr (by unfold lo8 mAB at *; split at ek <;> split at il <;> omega)
  have ekq : qL (lo8 a b + 2 * (i : Int)) (lo8 a b + 2 * (i : Int) + 1).toNat = qL k (k.toNat + 1) := by
    rw [show lo8 a b + 2 * (i : Int) = k by omega, show (k + 1).toNat = k.toNat + 1 by omega]
  have W0 : 0 < D * prodF (jBe a k b) := Nat.mul_pos hB.d0 (prodF_pos' _)
  have bj := jBe_bd8 a0 a8 (show 0 ≤ k by omega) (show k ≤ 16 by omega) b0 b8 cj
  have WG : D * prodF (jBe a k b) < 2 ^ 220 := by
    rw [show 220 = 110 + 110 from rfl, Nat.pow_add]
    exact Nat.mul_lt_mul'' hB.d1 bj
  refine ⟨_, rfl, _, rfl, _, rfl, _, _, rfl, rfl, -k, k + 1, 2, k.toNat + 1, rfl, ⟨by decide, by decide, small2 (by omega) (by omega) (by omega) (by omega), size2 (by omega) (by omega)⟩, ?_⟩
  refine for_rangeC (lo := -k) (c := 2) (n := k.toNat + 1) (fun j σ G' => ∃ (us : List Addr) (v5 v6 v7 v8 : Option V), σ = [some (.ref d), some (.int a), some (.int b), some (.ref l), some (.int k), v5, v6, v7, v8] ∧ Same H G' ∧ G' l = some (.lst (us.map V.ref)) ∧ DueAt G' us (rowsL ks N a b (kqL a b i ++ qL k j)))
    ⟨us, v5, v6, v7, v8, rfl, sG, hG, by rw [show qL k 0 = [] from rfl, List.append_nil]; exact hR⟩ (fun j σ G' jl hP => ?_) (fun σ G' hP => ?_)
  rotate_left
  · obtain ⟨us, v5, v6, v7, v8, rfl, sG', hG', hR'⟩ := hP
    refine ⟨us, _, _, _, _, _, rfl, sG', hG', ?_⟩
    show DueAt G' us (rowsL ks N a b (kqL a b i ++ qL (lo8 a b + 2 * (i : Int)) (lo8 a b + 2 * (i : Int) + 1).toNat))
    rw [ekq]
    exact hR'
  clear hR hG sG us v5 v6 v7 v8
  obtain ⟨us, v5, v6, v7, v8, rfl, sG', hG', hR'⟩ := hP
  obtain ⟨q0, eq0⟩ : ∃ q0 : Int, -k + ((j : Nat) : Int) * 2 = q0 := ⟨_, rfl⟩
  rw [eq0]
  have Pk : PairP k q0 := ⟨by omega, by omega, by omega, by omega, by omega⟩
  have eqs : qL k (j + 1) = qL k j ++ [(k, q0)] := by
    unfold qL
    rw [List.range_succ, List.map_append]
    show _ = _ ++ [(k, q0)]
    rw [← eq0, Int.mul_comm]
    rfl
  have lenR : us.length ≤ 250 := by
    rw [hR'.len]
    unfold rowsL
    rw [List.length_map]
    refine Nat.le_trans (List.length_filter_le _ _) ?_
    rw [List.length_append]
    have e1 := kqL_len (show lo8 a b ≤ 8 from lo0.2) i (by omega)
    have e2 : (qL k j).length = j := by
      unfold qL
      rw [List.length_map, List.length_range]
    omega
  -- the sum's start
  refine ⟨fun σ G2 => ∃ dt : Addr, σ = [some (.ref d), some (.int a), some (.int b), some (.ref l), some (.int k), some (.int q0), some (.ref dt), v7, v8] ∧ Same G' G2 ∧ DictAt G2 dt [] (fun _ => 0), fun dt hdt => ⟨dt, rfl, same_upd hdt, [], upd_same, rfl, (fun r hr => by cases hr), List.nodup_nil, fun r _ => rfl⟩, fun σ G2 hh => ?_⟩
  obtain ⟨dt, rfl, sA, hdt⟩ := hh
  have hL2 := hL.same (sG'.trans sA)
  -- the sum
  refine ⟨fun σ G3 => ∃ (dt : Addr) (kt : List Int) (g : Int → Rat) (v7 v8 : Option V), σ = [some (.ref d), some (.int a), some (.int b), some (.ref l), some (.int k), some (.int q0), some (.ref dt), v7, v8] ∧ Same G2 G3 ∧ DictAt G3 dt kt g ∧ kt.length ≤ 9 ∧ Lo (D * prodF (jBe a k b)) (9 * 2 ^ 3020) g ∧ (∀ r, g r = sumR ((plcL q0 a b (a.toNat + 1)).filter (inK ks)) (fun x => trm N a k q0 b x r)), ?_, fun σ G3 hh => ?_⟩
  · refine ⟨d, .dT (entT kP ks fs), hL2.at_, trivial, fun od => ?_⟩
    have hF := upd_same (H := G2) (a := d) (o := .frz od (.dT (entT kP ks fs)))
    have vF : ∀ k ∈ ks, ∃ x kr, fs k = .ref x ∧ DictAt (upd G2 d (.frz od (.dT (entT kP ks fs)))) x kr (TCR.val (N k)) ∧ Clear kr (TCR.val (N k)) ∧ kr.length ≤ 1 := fun k hk => by
      obtain ⟨x, kr, e, a, b, c⟩ := hL2.v k hk
      exact ⟨x, kr, e, a.updT hL2.at_, b, c⟩
    have dF := hdt.updT (o := .frz od (.dT (entT kP ks fs))) hL2.at_
    have back : ∀ G, Same (upd G2 d (.frz od (.dT (entT kP ks fs)))) G → Same G2 (upd G d (.dT (entT kP ks fs))) := fun G sG b' o eb => by
      by_cases e : b' = d
      · rw [e, upd_same]
        rw [e, hL2.at_] at eb
        exact eb
      · rw [upd_ne e]
        exact sG _ _ (by rw [upd_ne e]; exact eb)
    generalize upd G2 d (.frz od (.dT (entT kP ks fs))) = HF at hF vF dF back ⊢
    refine ⟨_, rfl, d, od, rfl, .inr ⟨_, hF, ?_⟩⟩
    refine for_it walk_keysT (fun i σ G => ∃ (dt : Addr) (kt : List Int) (g : Int → Rat) (v7 v8 : Option V), σ = [some (.ref d), some (.int a), some (.int b), some (.ref l), some (.int k), some (.int q0), some (.ref dt), v7, v8] ∧ Same HF G ∧ DictAt G dt kt g ∧ kt.length ≤ ((ks.take i).filter (pq q0)).length ∧ Lo (D * prodF (jBe a k b)) (((ks.take i).filter (pq q0)).length * 2 ^ 3020) g ∧ (∀ r, g r = sumR ((ks.take i).filter (pq q0)) (fun x => trm N a k q0 b x r)))
      ⟨dt, [], _, _, _, rfl, (fun _ _ e => e), dF, Nat.le_refl _, (Lo.zero _).mono (Nat.zero_le _), fun r => rfl⟩ (fun i σ G _ hP => ?_) (fun i x σ G0 G hi hP hy => ?_) (fun σ G hP => ?_)
    · obtain ⟨_, _, _, _, _, _, sm, _⟩ := hP
      exact sm _ _ hF
    rotate_left
    · obtain ⟨dt, kt, g, v7, v8, rfl, sm, hg, lk, LM, vg⟩ := hP
      have el : (entT kP ks fs).length = ks.length := entT_len _ _ _
      rw [el] at lk LM vg
      have l9 := fl_len nd off q0 a0 a8 ks.length
      rw [List.take_length] at lk LM vg l9
      refine ⟨sm _ _ hF, dt, kt, g, v7, v8, rfl, back _ sm, hg.updF (sm _ _ hF), Nat.le_trans lk l9, LM.mono (Nat.mul_le_mul_right _ l9), fun r => ?_⟩
      rw [vg r]
      exact sumR_perm _ (fl_perm nd off q0)
    obtain ⟨rfl, kk, v, qa, hkv, rfl, hq⟩ := hy
    obtain ⟨dt, kt, g, v7, v8, rfl, sm, hg, lk, LM, vg⟩ := hP
    obtain ⟨x, hx, rfl, rfl⟩ := entT_get hkv
    have xm : x ∈ ks := List.mem_of_getElem? hx
    obtain ⟨Pw, Pv⟩ := off x xm
    refine ⟨qa, _, rfl, SqT.of hq, rfl, _, _, rfl, _, _, rfl, rfl, ?_⟩
    by_cases z : x.2 + q0 = x.1
    rotate_left
    · refine ⟨_, rfl, _, rfl, _, _, rfl, rfl, _, rfl, rfl, false, congrArg V.bl (decide_eq_false fun e => z (V.int.inj e)), iteF ⟨dt, kt, g, _, _, rfl, sm, hg, ?_⟩⟩
      rw [fl_snoc q0 hx, if_neg z, List.append_nil]
      exact ⟨lk, LM, vg⟩
    refine ⟨_, rfl, _, rfl, _, _, rfl, rfl, _, rfl, rfl, true, congrArg V.bl (decide_eq_true (congrArg V.int z)), iteT ?_⟩
    obtain ⟨x1, kr, ex1, hx1, clx, lx⟩ := vF x xm
    obtain ⟨fN, lN⟩ := hB.f x xm
    obtain ⟨fJ, lJ⟩ := join_fit8 Pv Pk Pw a8 (show k ≤ 16 by omega) b8 cj
    refine ⟨_, rfl, _, rfl, _, rfl, _, rfl, by show 2 ≤ sizeLine; decide, fun t ht => ?_⟩
    have st := same_upd (o := .tup [.int x.1, .int x.2]) ht
    refine ⟨d, _, rfl, .inr ⟨_, kP x, t, .inr ⟨_, st _ _ (sm _ _ hF)⟩, rfl, upd_same, by rw [val_entT kP_inj, if_pos xm]⟩, ?_⟩
    refine ⟨_, rfl, _, rfl, _, rfl, _, rfl, _, rfl, _, rfl, a, x.2, k, q0, b, x.1, rfl, Pv, Pk, Pw, fun dj kj G4 s4 hdj hJ clJ lJ' => ?_⟩
    have hx4 := (hx1.same (sm.trans st)).same s4
    have nj : x1 ≠ dj := fun e => by
      obtain ⟨kv, e1, _⟩ := hx1.same (sm.trans st)
      rw [e] at e1
      cases e1.symm.trans hdj
    rw [ex1]
    refine ⟨x1, dj, kr, kj, _, _, D, prodF (jBe a k b), 1158, 1156, 110, 110, 256, rfl, nj, hx4, hJ, fun r => fN.vden r, fun r => fJ.vden r, hB.d0, prodF_pos' _, hB.d1, bj, fun r => fN.val r, fun r => fJ.val r, by decide, by decide, by decide, by decide, by decide, by decide, fun r hr => fN.rt (clx r hr), fun r hr => fJ.rt (clJ r hr), ?_, fun dp kp G5 s5 hdp hP5 clP lP _ => ?_⟩
    · have := Nat.mul_le_mul lx lJ'
      omega
    have hg5 := ((hg.same st).same s4).same s5
    have l9 := fl_len nd off q0 a0 a8 (i + 1)
    have fs1 := fl_snoc q0 hx
    rw [if_pos z] at fs1
    have ln : ((ks.take (i + 1)).filter (pq q0)).length = ((ks.take i).filter (pq q0)).length + 1 := by
      rw [fs1, List.length_append]
      rfl
    have lP1 : kp.length ≤ 1 := Nat.le_trans lP (Nat.le_trans (Nat.mul_le_mul lx lJ') (by decide))
    have eT : ∀ r, prodG kr kj (TCR.val (N x)) (TCR.val (joinL a x.2 k q0 b x.1)) r = trm N a k q0 b x r := fun r => prodG_supp hx4.cov (cov_can fN.can) hJ.cov (cov_can fJ.can) r
    have LT : Lo (D * prodF (jBe a k b)) (2 ^ 3020) (prodG kr kj (TCR.val (N x)) (TCR.val (joinL a x.2 k q0 b x.1))) := (lo_prod (Z := 2 ^ 256) (lo_fit fN) (lo_fit fJ) lx lJ' fun r hr s hs => by
      have r1 := fN.rt (clx r hr)
      exact Nat.le_of_lt (Nat.lt_of_le_of_lt (Nat.le_of_dvd (by omega) (Int.gcd_dvd_natAbs_left r s)) r1.2)).mono (by
      have e1 : 2 ^ 1158 * D * (2 ^ 1156 * prodF (jBe a k b)) * 2 ^ 256 = (2 ^ 1158 * 2 ^ 1156 * 2 ^ 256) * (D * prodF (jBe a k b)) := by
        generalize prodF (jBe a k b) = y
        grind
      rw [e1]
      refine Nat.le_trans (Nat.mul_le_mul_left _ (Nat.le_of_lt WG)) ?_
      decide +kernel)
    have zg : ∀ r, TCR.Sz 3024 (g r) := fun r => (LM.sz (G := 3024) W0 (Nat.lt_of_lt_of_le WG (Nat.pow_le_pow_right (by decide) (by decide))) (Nat.lt_of_le_of_lt (Nat.mul_le_mul_right _ (show _ ≤ 9 by omega)) (by decide +kernel)) r).1
    have zt : ∀ r, TCR.Sz 3024 (prodG kr kj (TCR.val (N x)) (TCR.val (joinL a x.2 k q0 b x.1)) r) := fun r => (LT.sz (G := 3024) W0 (Nat.lt_of_lt_of_le WG (Nat.pow_le_pow_right (by decide) (by decide))) (by decide +kernel) r).1
    refine ⟨dt, dp, kt, kp, g, _, 3024, 3024, rfl, hg5, hP5, zg, zt, by decide, by decide, by decide, by omega, fun ds kS G6 s6 hds hS6 clS lS _ => ?_⟩
    refine ⟨ds, kS, _, _, _, rfl, (((sm.trans st).trans s4).trans s5).trans s6, hS6, by omega, ?_, fun r => ?_⟩
    · rw [ln, Nat.add_mul, Nat.one_mul]
      exact LM.add LT
    · rw [fs1, sumR_snoc, ← vg r, ← eT r]
  obtain ⟨dt, kt, g, v7, v8, rfl, s3, hg, lk, LM, vg⟩ := hh
  have ev : (fun r => g r * Rat.divInt (k + 1) (b + 1)) = tv ks N a b (k, q0) := funext fun r => by
    rw [vg r]
    rfl
  -- times and over
  refine ⟨fun σ G4 => ∃ (db : Addr) (kb : List Int), σ = [some (.ref d), some (.int a), some (.int b), some (.ref l), some (.int k), some (.int q0), some (.ref db), v7, v8] ∧ Same G3 G4 ∧ DictAt G4 db kb (tv ks N a b (k, q0)) ∧ Clear kb (tv ks N a b (k, q0)) ∧ kb.length ≤ 9, ?_, fun σ G4 hh => ?_⟩
  · refine ⟨_, rfl, _, rfl, _, _, rfl, rfl, _, rfl, _, _, rfl, rfl, dt, kt, g, k + 1, b + 1, 3024, rfl, hg, fun r => ?_, by omega, Nat.lt_of_le_of_lt (show (k + 1).natAbs ≤ 17 by omega) (by decide +kernel), Nat.lt_of_le_of_lt (show (b + 1).natAbs ≤ 17 by omega) (by decide +kernel), by decide, by decide, by omega, fun d' ks' H' s' hd' hD cl l' _ => ?_⟩
    · exact (LM.sz (G := 3024) W0 (Nat.lt_of_lt_of_le WG (Nat.pow_le_pow_right (by decide) (by decide))) (by decide +kernel) r).1
    · rw [ev] at hD cl
      exact ⟨d', ks', rfl, s', hD, cl, Nat.le_trans l' lk⟩
  obtain ⟨db, kb, rfl, s4, hb, clb, lb⟩ := hh
  refine ⟨_, rfl, fun de hde => ?_⟩
  have se := same_upd (o := .dK []) hde
  have sT := ((sA.trans s3).trans s4).trans se
  obtain ⟨kvp, hk1, hk2, hk3, hk4, hk5⟩ := id (hb.same se)
  have kl : kvp.length = kb.length := by
    have := congrArg List.length hk2
    simpa using this
  refine ⟨db, de, kvp, rfl, rfl, hk1, upd_same, _, rfl, ?_⟩
  by_cases z : kvp.length = 0
  · rw [decide_eq_true z]
    have kb0 : kb = [] := List.length_eq_zero_iff.mp (by omega)
    have z0 : tM ks N a b (k, q0) = [] := cnOf_eq TCR.canon_nil fun r => (hk5 r (by rw [kb0]; simp)).symm
    refine ⟨us, _, _, _, _, rfl, sG'.trans sT, sT _ _ hG', ?_⟩
    rw [eqs, ← List.append_assoc, rowsL_snoc, if_neg (fun n => n z0), List.append_nil]
    exact hR'.same sT
  · rw [decide_eq_false z]
    have hlT := sT _ _ hG'
    refine ⟨_, rfl, .inl ⟨rfl, _, SqL.of hlT⟩, _, rfl, _, rfl, _, rfl, db, kb, _, rfl, hb.same se, clb, by omega, fun pp M G5 s5 hp hP cM vM lM => ?_⟩
    have eM : tM ks N a b (k, q0) = M := cnOf_eq cM vM
    have z0 : tM ks N a b (k, q0) ≠ [] := by
      rw [eM]
      intro e
      rw [e] at lM
      exact z (by rw [kl, ← lM]; rfl)
    refine ⟨by show 3 ≤ sizeLine; decide, fun t3 ht3 => ?_⟩
    have s3' := same_upd (o := .tup [.int k, .int q0, .ref pp]) ht3
    have hl3 := s3' _ _ (s5 _ _ hlT)
    refine ⟨l, _, .ref t3, rfl, rfl, hl3, Nat.lt_of_le_of_lt (m := 1000) (by rw [List.length_map]; omega) (by decide), ?_⟩
    have hRn := (((hR'.same sT).same s5).same s3').snoc (y := ((k, q0), tM ks N a b (k, q0))) upd_same (by rw [eM]; exact hP.same s3')
    have sl : Same H (upd (upd G5 t3 (.tup [.int k, .int q0, .ref pp])) l (.lst (us.map V.ref ++ [.ref t3]))) := same_at (((sG'.trans sT).trans s5).trans s3') hl
    refine ⟨us ++ [t3], _, _, _, _, rfl, sl, ?_, ?_⟩
    · rw [upd_same, List.map_append]
      rfl
    · rw [eqs, ← List.append_assoc, rowsL_snoc, if_pos z0]
      exact hRn.updLs hl3
end
end TC
/-! (one of a list of defs)(e, ..): the def is what the subscript gives. -/
namespace TCX
open PySem PySem.Spec PyProof.Rows L2
theorem eval_callSub (o i : Expr) (p2 : Pos) (args : List Expr) (keywords : List Keyword) (pos : Pos) (env : Env) : eval (.Call (.Subscript o i p2) args keywords pos) env = (do
    callWith pos (← eval (.Subscript o i p2) env) [] (backTo pos (starEach args env)) (backToKw pos (keywordEach keywords env))) := rfl
/-- the def at f with its promise, what it may let out, its parameters -/
structure HeldX (P : Program) (w : World) (K : PySem.W.Frag) (mg : Str → Option Value) (base : Heap) (k : Nat) (f : Addr) (sp : Sp) : Prop where
  ex : ∃ (fd : FuncData) (ps : List Str), FnOk P w K mg base (L2.CX P w) k f fd ps sp ∧ PySem.W.keepIn K (.ref f) = true ∧ L2.Binds K fd ps []
section
variable {X : Cx} {k : Nat} {E : XK} {o i : Expr} {p2 pos : Pos} {e : Expr} {es : List Expr} {t : TA} {tf : TE}
def tCallF (P : Program) (w : World) (K : PySem.W.Frag) (mg : Str → Option Value) (base : Heap) (k : Nat) (E : XK) (tf : TE) (t : TA) : TE := fun σ H Q => tf σ H fun y H1 => ∃ f sp, y = .ref f ∧ HeldX P w K mg base k f sp ∧ t σ H1 fun vs H2 => sp vs H2 Q E
theorem pe_callF (hf : PE X (.Subscript o i p2) tf) (hr : Room k X.A) (hx : Passes (L2.CX X.prog X.w) X E) (ha : PA X (e :: es) t) (he : starEach (e :: es) X.env = (false, eval e X.env) :: starEach es X.env := by rfl) (hpl : (backTo pos (starEach es X.env)).any (·.1) = false := by rfl) :
    PE X (.Call (.Subscript o i p2) (e :: es) [] pos) (tCallF X.prog X.w X.K X.mg X.base k E tf t) := by
  refine ⟨fun pins s σ H Q I h => ?_⟩
  rw [eval_callSub]
  refine wpAny_bind (thn (hf.run pins s σ H _ I h) fun u s1 z => ?_)
  obtain ⟨v, H1, I1, r1, f, sp, rfl, ⟨fd, ps, F, hk, hb⟩, ht⟩ := z
  cases r1
  refine PySem.W.callWith_K (h₀ := X.base) I1.ok.mod.kin hk (thn (ha.run pos pins s1 σ H1 _ I1 ht) fun us s2 z => ?_) he hpl
  obtain ⟨vs, H2, I2, r, q⟩ := z
  refine ⟨I2.kIn, ?_⟩
  refine run_fn (dvs := []) F hr hb .nil hx I2 r ?_
  rw [List.append_nil]
  exact q
end
end TCX
/-! dict(d) of a dict whose keys are tuples; != of two such dicts whose values are the same objects. -/
namespace TCX
open PySem PySem.Spec PyProof.Rows L2 PySem.W
section
variable {prog : Program} {w : World} {K : Type} [DecidableEq K] {knd : HeapKind prog w K} {A : Around} {E : Value → Shared → Prop} {s : Shared}
theorem dict_ofH (st : knd.Stays) {o : Addr} {more : List (K × Addr × Value)} {Q : Value → Shared → Prop} (hu : knd.room A.in1.in1) (hoS : (o == sysModules) = false) (ho : s.heap.DictOfH knd o more) (hap : (more.map fun x => knd.hash x.1).Nodup) (hsz : more.length ≤ sizeLine)
    (h : ∀ h', h'.DictOfH knd s.heap.objs.size more → Heap.SameBut s.heap.objs.size (s.heap.push { cls := .type "dict", data := .dict #[] }) h' → Q (.ref s.heap.objs.size) { s with heap := h' }) :
    wpAny (model prog w) A (call (.type "dict") [.ref o]) Q E s := by
  refine callType_codes (Q₁ := fun obj s₁ => obj = .ref s.heap.objs.size ∧ s₁ = { s with heap := s.heap.push { cls := .type "dict", data := .dict #[] } }) F.kt_called_dict (F.kt_typeCall_dict_1 _) F.entry_dict_init (kt_code_dict_new _ ⟨rfl, rfl⟩) ?_
  rintro obj s₁ ⟨rfl, rfl⟩
  have hnew : (s.heap.push { cls := .type "dict", data := .dict #[] }).DictOfH knd s.heap.objs.size [] := Heap.DictOfH.new s.heap
  have hk : ∀ b u, s.heap.get? b = some u → (s.heap.push { cls := .type "dict", data := .dict #[] }).get? b = some u := fun b u e => Heap.get?_push_of_some _ e
  obtain ⟨_, _, _, hg, _, _, _, his, hn⟩ := id ho
  have ho' : (s.heap.push { cls := .type "dict", data := .dict #[] }).DictOfH knd o more := ho.at' (fun u e => hk o u e) fun y hy => st.stays (fun b u _ _ e _ => hk b u e) (his y hy)
  have hdo : s.heap.objs.size ≠ o := fun e => absurd (Heap.lt_size hg) (by rw [e]; exact Nat.lt_irrefl _)
  refine ⟨hnew.typeIs, F.args_dict_init_2 _ _, ?_⟩
  unfold Builtin.«dict.__init__»
  refine wpAny_bind ?_
  unfold Builtin.Dict.selfAndRest
  refine wpAny_bind (wpAny_notOrdered_dict hnew.typeIs ?_)
  show wpAny _ _ (pure (s.heap.objs.size, [Value.ref o])) _ _ _
  refine wpAny_pure ?_
  refine updateFrom_dictH (A := A.in1) .none hu hdo hoS hnew ho' (.inr ⟨keyed_apart st ho', hap⟩) (by simpa using hsz) fun h' hd' _ hs' => ?_
  rw [storedAllH_nil_of_nodup more hn] at hd'
  exact ⟨rfl, h h' hd' hs'⟩
end
section
variable {X : Cx}
/-- dict(d): a copy, keys that are tuples whose hashes differ -/
theorem call_dictT (hu : X.A.units + 64 < cLine) : CallR X (.type "dict") (fun xs H Q => ∃ (a : Addr) (kvs : List (List Key × V)), xs = [.ref a] ∧ H a = some (.dT kvs) ∧ (kvs.map fun kv => tupleKeyHash (mixKind X.prog X.w) kv.1).Nodup ∧ ∀ p, H p = none → Q (.ref p) (upd H p (.dT kvs))) := by
  intro pins s σ H xs us Q I r q
  obtain ⟨a, kvs, ex, hd, hn, q⟩ := q
  subst ex
  obtain ⟨u, eu, rx⟩ := vals1 r
  subst eu
  cases rx
  obtain ⟨z, lo, vs, rel, dd⟩ := dt_of I.hok hd
  have lv : kvs.length = vs.length := Paired.length rel
  have ek : (vs.map fun x => (tupleKind (mixKind X.prog X.w)).hash x.1) = kvs.map fun kv => tupleKeyHash (mixKind X.prog X.w) kv.1 := by
    refine List.ext_getElem (by rw [List.length_map, List.length_map, lv]) fun i h1 h2 => ?_
    rw [List.getElem_map, List.getElem_map]
    rw [List.length_map] at h1 h2
    obtain ⟨z', hz', e1, _⟩ := paired_get rel (List.getElem?_eq_getElem h2)
    rw [List.getElem?_eq_getElem h1] at hz'
    rw [Option.some.inj hz', e1]
    rfl
  refine dict_ofH tupleKind_stays (show X.A.units + 1 + 1 < cLine by omega) lo dd (by rw [ek]; exact hn) (by rw [← lv]; exact z) fun h' d' hs => ?_
  have hm : (s.heap.objs.size == sysModules) = false := beq_eq_false_iff_ne.mpr (Nat.ne_of_gt I.big)
  have keep : ∀ b u, s.heap.get? b = some u → h'.get? b = some u := fun b u e => (hs.2 b (Nat.ne_of_lt (Heap.lt_size e))).trans (Heap.get?_push_of_some _ e)
  obtain ⟨o', es, ep, g1, g2, g3, g4, _, g6⟩ := d'
  refine ⟨.ref s.heap.objs.size, upd H s.heap.objs.size (.dT kvs), I.laid (t' := s.toks) keep (Nat.le_refl _)
    (show ObjOk X.prog X.w _ _ _ (.dT kvs) from ⟨z, hm, vs, KT.keeps rel fun b ys e => ?_, o', es, ep, g1, g2, g3, g4, g6⟩), rfl, q _ (I.hok.fresh (Nat.le_refl _))⟩
  rw [upd_ne fun e' => by
    rw [e', I.hok.fresh (Nat.le_refl _)] at e
    cases e]
  exact e
/-- != of two dicts of tuple keys that hold the same objects -/
def rNeTR : R2 := fun x y H Q => ∃ a b ks, x = .ref a ∧ y = .ref b ∧ H a = some (.dT ks) ∧ H b = some (.dT ks) ∧ (∀ p ∈ ks, valV ks p.1 = some p.2 ∧ ∃ r, p.2 = .ref r) ∧ Q (.bl false) H
theorem op_neTR (hu : X.A.units + 64 < cLine) : OpR X (compareOp .NotEq) rNeTR := by
  intro pins s σ H x y v u Q I rx ry h
  obtain ⟨a, b, ks, rfl, rfl, ea, eb, hp, q⟩ := h
  obtain rfl : v = Value.ref a := rx
  obtain rfl : u = Value.ref b := ry
  obtain ⟨_, ya, va, ra, da⟩ := dt_of I.hok ea
  obtain ⟨_, yb, vb, rb, db⟩ := dt_of I.hok eb
  have l1 : ks.length = va.length := Paired.length ra
  have l2 : ks.length = vb.length := Paired.length rb
  refine neH (knd := tupleKind (mixKind X.prog X.w)) ?_ (by omega) ya yb da db (by omega) (fun z hz => ?_) (fin_bl I q rfl)
  · exact tupleKind_room_in1 (by omega)
  · obtain ⟨i, hi⟩ := List.getElem?_of_mem hz
    have lt : i < ks.length := by
      have := (List.getElem?_eq_some_iff.mp hi).1
      omega
    obtain ⟨z', hz', e1, e2, e3⟩ := paired_get ra (List.getElem?_eq_getElem lt)
    rw [hi] at hz'
    obtain rfl := Option.some.inj hz'
    obtain ⟨h1, r, h2⟩ := hp _ (List.getElem_mem lt)
    have rr := KT.val rb z.1
    rw [← e1, h1] at rr
    obtain ⟨y, hy, ry⟩ := rr.some_of
    rw [Option.map_eq_some_iff] at hy
    obtain ⟨p, hp1, hp2⟩ := hy
    refine ⟨p, by rw [← e1]; exact hp1, ?_⟩
    rw [hp2]
    rw [h2] at e3 ry
    have e3' : z.2.2 = Value.ref r := e3
    have ry' : y = Value.ref r := ry
    rw [e3', ry']
    exact SeqAt.EqAt.same _
end
/-- the def at f with its promise, whatever it may let out -/
structure HeldC (P : Program) (w : World) (K : PySem.W.Frag) (mg : Str → Option Value) (base : Heap) (CX : CXT) (k : Nat) (f : Addr) (sp : Sp) : Prop where
  ex : ∃ (fd : FuncData) (ps : List Str), FnOk P w K mg base CX k f fd ps sp ∧ PySem.W.keepIn K (.ref f) = true ∧ L2.Binds K fd ps []
section
variable {X : Cx} {k : Nat} {E : XK} {CX : CXT} {o i : Expr} {p2 pos : Pos} {e : Expr} {es : List Expr} {t : TA} {tf : TE}
def tCallC (P : Program) (w : World) (K : PySem.W.Frag) (mg : Str → Option Value) (base : Heap) (CX : CXT) (k : Nat) (E : XK) (tf : TE) (t : TA) : TE := fun σ H Q => tf σ H fun y H1 => ∃ f sp, y = .ref f ∧ HeldC P w K mg base CX k f sp ∧ t σ H1 fun vs H2 => sp vs H2 Q E
theorem pe_callC (hf : PE X (.Subscript o i p2) tf) (hr : Room k X.A) (hx : Passes CX X E) (ha : PA X (e :: es) t) (he : starEach (e :: es) X.env = (false, eval e X.env) :: starEach es X.env := by rfl) (hpl : (backTo pos (starEach es X.env)).any (·.1) = false := by rfl) :
    PE X (.Call (.Subscript o i p2) (e :: es) [] pos) (tCallC X.prog X.w X.K X.mg X.base CX k E tf t) := by
  refine ⟨fun pins s σ H Q I h => ?_⟩
  rw [eval_callSub]
  refine wpAny_bind (thn (hf.run pins s σ H _ I h) fun u s1 z => ?_)
  obtain ⟨v, H1, I1, r1, f, sp, rfl, ⟨fd, ps, F, hk, hb⟩, ht⟩ := z
  cases r1
  refine PySem.W.callWith_K (h₀ := X.base) I1.ok.mod.kin hk (thn (ha.run pos pins s1 σ H1 _ I1 ht) fun us s2 z => ?_) he hpl
  obtain ⟨vs, H2, I2, r, q⟩ := z
  refine ⟨I2.kIn, ?_⟩
  refine run_fn (dvs := []) F hr hb .nil hx I2 r ?_
  rw [List.append_nil]
  exact q
end
end TCX
namespace TC
set_option exponentiation.threshold 20000
open PySem PySem.Spec PyProof.Rows L2 TCA TCX
/-! ### K60LK: rows as data; hashes of pairs -/
def rowD (y : (Int × Int) × List Part) : PyData := .tuple [.int y.1.1, .int y.1.2, toD y.2]
theorem DueAt.dp {K : PySem.W.Frag} {H : Hp} : ∀ {us : List Addr} {L : List ((Int × Int) × List Part)}, DueAt H us L → DpAll K H (us.map V.ref) (L.map rowD)
  | [], [], _ => .nil
  | u :: us, y :: L, h => by
    obtain ⟨x, e, p⟩ := h.at_ 0 u y rfl rfl
    exact .cons (.tup (SqT.of e) (.cons (.int _) (.cons (.int _) (.cons p.dp .nil)))) (DueAt.dp ⟨Nat.succ.inj h.len, fun i u' y' hu hy => h.at_ (i + 1) u' y' hu hy⟩)
  | [], _ :: _, h => by have := h.len; cases this
  | _ :: _, [], h => by have := h.len; cases this
theorem toD_depth (L : List Part) : PyData.depth (toD L) ≤ 2 := by
  have h2 : ∀ L : List Part, PyData.depthAll (L.map parD) ≤ 1 := fun L => by
    induction L with
    | nil => exact Nat.zero_le _
    | cons x L ih =>
      show max (PyData.depth (parD x)) (PyData.depthAll (L.map parD)) ≤ 1
      exact Nat.max_le.mpr ⟨Nat.le_refl 1, ih⟩
  show PyData.depthAll (L.map parD) + 1 ≤ 2
  have := h2 L
  omega
theorem rowsD_shaped (L : List ((Int × Int) × List Part)) : SeqAt.shaped (.list (L.map rowD)) = true := by
  have h1 : ∀ L : List ((Int × Int) × List Part), PyData.canLayAll0 (L.map rowD) = true := fun L => by
    induction L with
    | nil => rfl
    | cons x L ih =>
      show (PyData.canLay0 (rowD x) && PyData.canLayAll0 (L.map rowD)) = true
      rw [ih, Bool.and_true]
      show (true && (true && (PyData.canLay0 (toD x.2) && true))) = true
      rw [SeqAt.canLay_of_shaped (toD_shaped x.2)]
      rfl
  have h2 : ∀ L : List ((Int × Int) × List Part), PyData.depthAll (L.map rowD) ≤ 3 := fun L => by
    induction L with
    | nil => exact Nat.zero_le _
    | cons x L ih =>
      show max (PyData.depth (rowD x)) (PyData.depthAll (L.map rowD)) ≤ 3
      refine Nat.max_le.mpr ⟨?_, ih⟩
      show max 0 (max 0 (max (PyData.depth (toD x.2)) 0)) + 1 ≤ 3
      have := toD_depth x.2
      omega
  show (PyData.canLayAll0 (L.map rowD) && decide (PyData.depthAll (L.map rowD) + 1 ≤ 64)) = true
  rw [h1, decide_eq_true (by have := h2 L; omega)]
  rfl
theorem rowsD_refl : ∀ L : List ((Int × Int) × List Part), PyData.eqv (.list (L.map rowD)) (.list (L.map rowD)) = true
  | [] => rfl
  | x :: L => by
    show (PyData.eqv (rowD x) (rowD x) && PyData.eqvAll (L.map rowD) (L.map rowD)) = true
    have ih : PyData.eqvAll (L.map rowD) (L.map rowD) = true := rowsD_refl L
    rw [ih, Bool.and_true]
    have e := toD_eqv x.2 x.2
    rw [decide_eq_true rfl] at e
    show (PyData.eqv (.int x.1.1) (.int x.1.1) && (PyData.eqv (.int x.1.2) (.int x.1.2) && (PyData.eqv (toD x.2) (toD x.2) && true))) = true
    rw [e]
    simp [PyData.eqv]
def hP (k : Int × Int) : Int := reduceHash (Builtin.Tuple.tupleHashOf [hashInt k.1, hashInt k.2])
theorem hP_eq {P : Program} {w : World} (k : Int × Int) : tupleKeyHash (mixKind P w) (kP k) = hP k := rfl
def prs9 (s t : Int) : List (Int × Int) := (List.range 9).flatMap fun i => (List.range 9).map fun j => (s + 2 * ((i : Nat) : Int), t + 2 * ((j : Nat) : Int))
theorem hP_nd : ∀ s ∈ ([-8, -7] : List Int), ∀ t ∈ ([-8, -7] : List Int), ((prs9 s t).map hP).Nodup := by decide +kernel
theorem prs9_mem {s t x y : Int} (h1 : s ≤ x) (h2 : x ≤ s + 17) (h3 : (x - s) % 2 = 0) (h4 : t ≤ y) (h5 : y ≤ t + 17) (h6 : (y - t) % 2 = 0) : (x, y) ∈ prs9 s t := by
  refine List.mem_flatMap.mpr ⟨((x - s) / 2).toNat, List.mem_range.mpr (by omega), List.mem_map.mpr ⟨((y - t) / 2).toNat, List.mem_range.mpr (by omega), ?_⟩⟩
  refine Prod.ext ?_ ?_
  · show s + 2 * ((((x - s) / 2).toNat : Nat) : Int) = x
    omega
  · show t + 2 * ((((y - t) / 2).toNat : Nat) : Int) = y
    omega
theorem inj_of_nd {α β : Type} {f : α → β} : ∀ {l : List α}, (l.map f).Nodup → ∀ x ∈ l, ∀ y ∈ l, f x = f y → x = y
  | [], _, x, hx, _, _, _ => by cases hx
  | a :: l, h, x, hx, y, hy, e => by
    obtain ⟨h1, h2⟩ := List.nodup_cons.mp h
    rcases List.mem_cons.mp hx with rfl | hx'
    · rcases List.mem_cons.mp hy with rfl | hy'
      · rfl
      · exact absurd (by rw [e]; exact List.mem_map_of_mem hy') h1
    · rcases List.mem_cons.mp hy with rfl | hy'
      · exact absurd (by rw [← e]; exact List.mem_map_of_mem hx') h1
      · exact inj_of_nd h2 x hx' y hy' e
theorem map_nd {α β : Type} {f : α → β} : ∀ {l : List α}, l.Nodup → (∀ x ∈ l, ∀ y ∈ l, f x = f y → x = y) → (l.map f).Nodup
  | [], _, _ => List.nodup_nil
  | a :: l, h, i => by
    obtain ⟨h1, h2⟩ := List.nodup_cons.mp h
    refine List.nodup_cons.mpr ⟨fun m => ?_, map_nd h2 fun x hx y hy => i x (List.mem_cons_of_mem _ hx) y (List.mem_cons_of_mem _ hy)⟩
    obtain ⟨x, hx, e⟩ := List.mem_map.mp m
    exact h1 (i x (List.mem_cons_of_mem _ hx) a (List.mem_cons_self) e ▸ hx)
end TC
namespace TC
open PySem PySem.Spec PyProof.Rows L2 TCA TCX
theorem ent_hash {γ : Type} {ks : List (Int × Int)} {fv : Int × Int → V} (h : List Key → γ) : (entT kP ks fv).map (fun kv => h kv.1) = ks.map fun k => h (kP k) := by
  unfold entT
  rw [List.map_map]
  rfl
theorem hash_nd {P : Program} {w : World} {a b : Int} {ks : List (Int × Int)} {fv : Int × Int → V} (a8 : a ≤ 8) (b8 : b ≤ 8) (nd : ks.Nodup) (off : ∀ k ∈ ks, PairP b k.1 ∧ PairP a k.2) : ((entT kP ks fv).map fun kv => tupleKeyHash (mixKind P w) kv.1).Nodup := by
  have e := (ent_hash (ks := ks) (fv := fv) (tupleKeyHash (mixKind P w))).trans (List.map_congr_left (g := hP) fun k _ => hP_eq (P := P) (w := w) k)
  rw [e]
  obtain ⟨s, s1, s2⟩ : ∃ s : Int, s ∈ ([-8, -7] : List Int) ∧ (b - s) % 2 = 0 := by
    by_cases z : b % 2 = 0
    · exact ⟨-8, by simp, by omega⟩
    · exact ⟨-7, by simp, by omega⟩
  obtain ⟨t, t1, t2⟩ : ∃ s : Int, s ∈ ([-8, -7] : List Int) ∧ (a - s) % 2 = 0 := by
    by_cases z : a % 2 = 0
    · exact ⟨-8, by simp, by omega⟩
    · exact ⟨-7, by simp, by omega⟩
  have s3 : s = -8 ∨ s = -7 := by simpa using s1
  have t3 : t = -8 ∨ t = -7 := by simpa using t1
  have mem : ∀ k ∈ ks, k ∈ prs9 s t := fun k hk => by
    obtain ⟨⟨_, _, p2, p3, p4⟩, ⟨_, _, o2, o3, o4⟩⟩ := off k hk
    exact prs9_mem (x := k.1) (y := k.2) (by omega) (by omega) (by omega) (by omega) (by omega) (by omega)
  exact map_nd nd fun x hx y hy e => inj_of_nd (hP_nd s s1 t t1) x (mem x hx) y (mem y hy) e
end TC
namespace TC
set_option exponentiation.threshold 20000
open PySem PySem.Spec PyProof.Rows L2 TCA TCX
abbrev nLaw : List Str := ["_law_script", "_law_pen_here", "_law_bout", "_law_far", "_law_a", "_law_b", "_law_some", "_law_numbers", "_law_kept", "_law_due_here", "_law_told", "_law_k", "_law_q", "_law_number", "_law_ranks", "_law_parts_here", "_law_one"]
theorem scLaw : FnScope nLaw ["_law_script"] (defScope sLaw) := ⟨rfl, rfl, rfl, by decide +kernel, rfl, by decide +kernel, by decide +kernel⟩
def spLaw (K : PySem.W.Frag) : Sp := fun vs H Q _ => ∃ (a : Addr) (ns : List Int), vs = [.ref a] ∧ SqL K H a (ns.map V.int) ∧ ns.length ≤ 63 ∧ ∀ H', Q (.bl true) H'
structure LTxt (P : Program) (w : World) (K : PySem.W.Frag) (mg : Str → Option Value) (base : Heap) (C fPn fD fLk fOT fDu fR fRO fE : Addr) (fdPn fdD fdLk fdOT fdDu fdR fdRO fdE : FuncData) : Prop where
  GPn : FnOk P w K mg base CX0 1 fPn fdPn ["_law_script"] (spPen K)
  bPn : L2.Binds K fdPn ["_law_script"] []
  kPn : PySem.W.keepIn K (.ref fPn) = true
  gPn : mg "_law_pen" = some (.ref fPn)
  GD : FnOk P w K mg base CX0 1 fD fdD ["_law_pen_here", "_law_many"] spDraw
  bD : L2.Binds K fdD ["_law_pen_here", "_law_many"] []
  kD : PySem.W.keepIn K (.ref fD) = true
  gD : mg "_law_draw" = some (.ref fD)
  GLk : FnOk P w K mg base CX0 5 fLk fdLk ["_law_pen_here", "_law_a", "_law_b"] (spLinkL C)
  bLk : L2.Binds K fdLk ["_law_pen_here", "_law_a", "_law_b"] []
  kLk : PySem.W.keepIn K (.ref fLk) = true
  gLk : mg "_law_linking" = some (.ref fLk)
  GOT : FnOk P w K mg base CX0 5 fOT fdOT ["_law_pen_here", "_law_a", "_law_b"] (spLinkL C)
  bOT : L2.Binds K fdOT ["_law_pen_here", "_law_a", "_law_b"] []
  kOT : PySem.W.keepIn K (.ref fOT) = true
  gOT : mg "_law_one_tensor" = some (.ref fOT)
  GDu : FnOk P w K mg base CX0 4 fDu fdDu ["_law_some", "_law_a", "_law_b"] spDue
  bDu : L2.Binds K fdDu ["_law_some", "_law_a", "_law_b"] []
  kDu : PySem.W.keepIn K (.ref fDu) = true
  gDu : mg "_law_due" = some (.ref fDu)
  FR : FnP K "resolved" sResolved fR fdR
  GR : FnOk P w K mg base CX0 7 fR fdR ["linking", "by", "to"] (spResolved C)
  gR : mg "resolved" = some (.ref fR)
  FRO : FnP K "rank_of" sRankOf fRO fdRO
  GRO : FnOk P w K mg base CX0 8 fRO fdRO ["linking", "by", "to"] (spRankOf C)
  gRO : mg "rank_of" = some (.ref fRO)
  FE : FnE K fE fdE
  GE : FnOk P w K mg base CX0 4 fE fdE psE (spExact C)
  gE : mg "exact" = some (.ref fE)
  grange : mg "range" = none
  glen : mg "len" = none
  gint : mg "int" = none
  gdict : mg "dict" = none
theorem rankV_law (l : List Int) : (if l = [] then V.non else if l.countP (fun z => decide (z = l.headD 0)) = l.length then V.int (l.headD 0) else .non) = rankV l := by
  cases l with
  | nil => rfl
  | cons n ns =>
    rw [if_neg (by simp)]
    show (if (n :: ns).countP (fun z => decide (z = n)) = (n :: ns).length then V.int n else .non) = if (ns.all fun x => decide (x = n)) = true then .int n else .non
    by_cases h : (ns.all fun x => decide (x = n)) = true
    · rw [if_pos h, if_pos]
      refine List.countP_eq_length.mpr fun x hx => ?_
      rcases List.mem_cons.mp hx with rfl | hx
      · exact decide_eq_true rfl
      · exact List.all_eq_true.mp h x hx
    · rw [if_neg h, if_neg]
      intro e
      exact h (List.all_eq_true.mpr fun x hx => List.countP_eq_length.mp e x (List.mem_cons_of_mem _ hx))
theorem ints_sh (l : List Int) : SeqAt.shaped (.list (dInts l)) = true := by
  obtain ⟨h1, h2⟩ := ints_lay l
  show (PyData.canLayAll0 (dInts l) && decide (PyData.depthAll (dInts l) + 1 ≤ 64)) = true
  rw [h1, decide_eq_true (by omega)]
  rfl
theorem ints_dp {K : PySem.W.Frag} {H : Hp} : ∀ l : List Int, DpAll K H (l.map V.int) (dInts l)
  | [] => .nil
  | x :: l => .cons (.int x) (ints_dp l)
theorem count_ints (n : Int) : ∀ l : List Int, (l.map V.int).countP (fun z => eqV z (.int n)) = l.countP (fun z => decide (z = n))
  | [] => rfl
  | x :: l => by
    rw [List.map_cons, List.countP_cons, List.countP_cons, count_ints n l]
    have e : eqV (.int x) (.int n) = decide (x = n) := by
      show (x == n) = decide (x = n)
      by_cases h : x = n
      · rw [decide_eq_true h, h]
        simp
      · rw [decide_eq_false h]
        simpa using h
    rw [e]
theorem flat_ints (l : List Int) : (l.map V.int).all flatV = true := by
  refine List.all_eq_true.mpr fun x hx => ?_
  obtain ⟨y, _, rfl⟩ := List.mem_map.mp hx
  rfl
theorem PenAt.updLs {H : Hp} {p c l : Addr} {ms : List Int} {n : Int} {o : HO} (h : PenAt H p c ms n) (h1 : l ≠ p) (h2 : l ≠ c) : PenAt (upd H l o) p c ms n := by
  obtain ⟨left, a1, a2, a3⟩ := h
  exact ⟨left, by rw [upd_ne h1.symm]; exact a1, by rw [upd_ne h2.symm]; exact a2, a3⟩
theorem scal_rank (l : List Int) : scal (rankV l) (rankV l) = true := by
  unfold rankV
  split
  · rfl
  · split <;> rfl
section
variable {P : Program} {w : World} {K : PySem.W.Frag} {mg : Str → Option Value} {base : Heap} {f C fI fQ fPn fD fLk fOT fDu fR fRO fE : Addr} {fd fdPn fdD fdLk fdOT fdDu fdR fdRO fdE : FuncData}
set_option maxHeartbeats 0 in
theorem ok_law (F : FnP K "law" sLaw f fd) (TN : TxtN K mg C fI fQ) (T : LTxt P w K mg base C fPn fD fLk fOT fDu fR fRO fE fdPn fdD fdLk fdOT fdDu fdR fdRO fdE) : FnOk P w K mg base CX0 9 f fd ["_law_script"] (spLaw K) := by
  have kbR : KBn K fdR ["linking", "by", "to"] 1 ["by", "to"] (fun us ws => us ++ ws) (fun vs zs => vs ++ zs) := kbindsN T.FR 1 ["by", "to"] (fun _ _ _ _ _ _ us ws h1 h2 => match us, ws, h1, h2 with
    | [_], [_, _], _, _ => rfl)
  have kbR2 : KBn K fdR ["linking", "by", "to"] 1 ["to", "by"] (fun us ws => us ++ ws.reverse) (fun vs zs => vs ++ zs.reverse) := kbindsR T.FR 1 ["to", "by"] (fun _ _ _ _ _ _ us ws h1 h2 => match us, ws, h1, h2 with
    | [_], [_, _], _, _ => rfl)
  have kbO : KBn K fdRO ["linking", "by", "to"] 1 ["to", "by"] (fun us ws => us ++ ws.reverse) (fun vs zs => vs ++ zs.reverse) := kbindsR T.FRO 1 ["to", "by"] (fun _ _ _ _ _ _ us ws h1 h2 => match us, ws, h1, h2 with
    | [_], [_, _], _, _ => rfl)
  obtain ⟨dsE, vE, bE⟩ := bE0 T.FE
  refine F.ok scLaw (fun vs H Q E h => ?_) (fun cdv A outer s H vs Q E hr h => ?_)
  · obtain ⟨_, _, rfl, _⟩ := h
    rfl
  obtain ⟨a0, ns, rfl, hS, hn, q⟩ := h
  have hu := hr.units
  have hr1 := hr.mono (show 1 ≤ 8 by decide)
  have hr4 := hr.mono (show 4 ≤ 8 by decide)
  have hr5 := hr.mono (show 5 ≤ 8 by decide)
  have hr7 := hr.mono (show 7 ≤ 8 by decide)
  refine ⟨_, PSs.nox (pss_cons (ps_set (i := 1) scLaw.nd rfl (.inl rfl) (pe_call T.GPn hr1 (by rfl) T.gPn T.kPn T.bPn .nil pass0 (pa_cons (pv 0) pa_nil)))
      (pss_cons (ps_for PassesOwn.never rfl (pi_range1 (by rfl) T.grange (pa_cons (pe_op op_add pe_int (pe_call T.GD hr1 (by rfl) T.gD T.kD T.bD .nil pass0 (pa_cons (pv 1) (pa_cons pe_int pa_nil)))) pa_nil)) (pg_name (i := 2) scLaw.nd rfl (.inl rfl))
        (C8.pss_cut (ps_set (i := 3) scLaw.nd rfl (.inl rfl) (pe_ix ix_list (pe_lst (pa_cons pe_int (pa_cons pe_int (pa_cons pe_int pa_nil)))) (pe_op op_add (pe_callTy call_int1 (by rfl) T.gint (by decide +kernel) (pa_cons (pe_cmpR op_eq (pe_call T.GD hr1 (by rfl) T.gD T.kD T.bD .nil pass0 (pa_cons (pv 1) (pa_cons pe_int pa_nil))) pe_int (nomark _)) pa_nil)) (pe_callTy call_int1 (by rfl) T.gint (by decide +kernel) (pa_cons (pe_cmpR op_eq (pv 2) pe_int (nomark _)) pa_nil))) (fun _ _ => rfl)))
      (C8.pss_cut (ps_par (i := 4) (j := 5) (by rfl) scLaw.nd rfl rfl (by decide) rfl rfl (pa_cons (pe_call T.GD hr1 (by rfl) T.gD T.kD T.bD .nil pass0 (pa_cons (pv 1) (pa_cons (pv 3) pa_nil))) (pa_cons (pe_call T.GD hr1 (by rfl) T.gD T.kD T.bD .nil pass0 (pa_cons (pv 1) (pa_cons (pv 3) pa_nil))) pa_nil)) (by rfl))
      (C8.pss_cut (ps_if (PW.pt (pw_and (pt_cmpR op_eq (pv 2) pe_int (nomark _)) (pw_and1 (pt_cmpR op_eq (pe_call T.GD hr1 (by rfl) T.gD T.kD T.bD .nil pass0 (pa_cons (pv 1) (pa_cons pe_int pa_nil))) pe_int (nomark _))))) (pss_one (ps_par (i := 4) (j := 5) (by rfl) scLaw.nd rfl rfl (by decide) rfl rfl (pa_cons (pe_op op_add pe_int (pe_call T.GD hr1 (by rfl) T.gD T.kD T.bD .nil pass0 (pa_cons (pv 1) (pa_cons pe_int pa_nil)))) (pa_cons (pe_op op_add pe_int (pe_call T.GD hr1 (by rfl) T.gD T.kD T.bD .nil pass0 (pa_cons (pv 1) (pa_cons pe_int pa_nil)))) pa_nil)) (by rfl))) pss_nil)
      (C8.pss_cut (ps_asg (pe_callC (k := 5) (CX := CX0) (E := E) (pe_ix ix_list (pe_lst (pa_cons (pe_glob (v := .ref fLk) (by rfl) T.gLk rfl) (pa_cons (pe_glob (v := .ref fOT) (by rfl) T.gOT rfl) pa_nil))) (pe_call T.GD hr1 (by rfl) T.gD T.kD T.bD .nil pass0 (pa_cons (pv 1) (pa_cons pe_int pa_nil))) (fun _ _ => rfl)) hr5 pass0 (pa_cons (pv 1) (pa_cons (pv 4) (pa_cons (pv 5) pa_nil)))) (pg_tup rfl (pgs_cons (pg_name (i := 6) scLaw.nd rfl (.inl rfl)) (pgs_cons (pg_name (i := 7) scLaw.nd rfl (.inl rfl)) pgs_nil))))
      (C8.pss_cut (ps_set (i := 8) scLaw.nd rfl (.inl rfl) (pe_callTy (call_dictT hu) (by rfl) T.gdict (by decide +kernel) (pa_cons (pv 7) pa_nil)))
      (C8.pss_cut (ps_set (i := 9) scLaw.nd rfl (.inl rfl) (pe_call T.GDu hr4 (by rfl) T.gDu T.kDu T.bDu .nil pass0 (pa_cons (pv 6) (pa_cons (pv 4) (pa_cons (pv 5) pa_nil)))))
      (C8.pss_cut (ps_set (i := 10) scLaw.nd rfl (.inl rfl) (pe_callN T.GR hr7 (by rfl) T.gR T.FR.kp kbR pass0 (pa_cons (pv 7) pa_nil) (pk_cons (pv 4) (pk_cons (pv 5) pk_nil))))
      (C8.pss_cut (ps_if (PW.pt (pw_or (pt_cmpR (op_neD hu) (pe_lc (own := [("_law_k", 11), ("_law_q", 12), ("_law_number", 13)]) (g := gTup K 3 (gCons (gName 11) (gCons (gName 12) (gCons (gName 13) gNil)))) (tt := tYes) (te := (tTup (tCons (tVar 11) (tCons (tVar 12) (tCons (tFld K (tVar 13) "parts") tNil))))) (by rfl) scLaw.nd (pi_list (pv 10))
          (blkOk_by (N := nLaw) (sc := defScope sLaw) (by decide +kernel)) (fun _ _ _ _ _ => pg_tup rfl (pgs_cons (pg_name (i := 11) scLaw.nd rfl (.inl rfl)) (pgs_cons (pg_name (i := 12) scLaw.nd rfl (.inl rfl)) (pgs_cons (pg_name (i := 13) scLaw.nd rfl (.inl rfl)) pgs_nil)))) (fun _ _ _ _ _ => pts_nil) (fun _ _ _ _ _ => (pe_tup (pa_cons (pv 11) (pa_cons (pv 12) (pa_cons (pe_fld (pv 13) rfl) pa_nil)))))) (pv 9) (nomark _)) (pw_or1 (pt_cmpR (op_neTR hu) (pv 7) (pv 8) (nomark _))))) (pss_one (ps_ret pe_bl)) pss_nil)
      (C8.pss_cut (ps_setLc (i := 14) (own := [("_law_k", 11), ("_law_q", 12), ("_law_parts_here", 15)]) (g := gTup K 3 (gCons (gName 11) (gCons (gName 12) (gCons (gName 15) gNil)))) (tt := tYes) (te := (tVar 11)) (by rfl) scLaw.nd rfl rfl (sw_true rfl rfl rfl (by decide +kernel)) (pi_list (pv 9))
          (blkOk_by (N := nLaw) (sc := defScope sLaw) (by decide +kernel)) (fun _ _ _ _ _ => pg_tup rfl (pgs_cons (pg_name (i := 11) scLaw.nd rfl (.inl rfl)) (pgs_cons (pg_name (i := 12) scLaw.nd rfl (.inl rfl)) (pgs_cons (pg_name (i := 15) scLaw.nd rfl (.inl rfl)) pgs_nil)))) (fun _ _ _ _ _ => pts_nil) (fun _ _ _ _ _ => (pv 11)))
      (C8.pss_cut (ps_set (i := 16) scLaw.nd rfl (.inl rfl) (pe_ifExp (PW.pt (pw_and (pt_cmpR (op_neD hu) (pv 14) (pe_lst pa_nil) (nomark _)) (pw_and1 (pt_cmpR op_eq (pe_bm PySem.F.plainAttrs_list PySem.F.slot_list_count PySem.F.type_list_count mt_count (pv 14) (pa_cons (pe_ix ix_list (pv 14) pe_int (fun _ _ => rfl)) pa_nil)) (pe_callB call_len_seq (by rfl) T.glen PySem.boot_len (pa_cons (pv 14) pa_nil)) (nomark _))))) (pe_ix ix_list (pv 14) pe_int (fun _ _ => rfl)) pe_non))
      (C8.pss_cut (ps_if (pt_cmpR op_ne (pe_callN T.GRO hr (by rfl) T.gRO T.FRO.kp kbO pass0 (pa_cons (pv 7) pa_nil) (pk_cons (pv 5) (pk_cons (pv 4) pk_nil))) (pv 16) (nomark _)) (pss_one (ps_ret pe_bl)) pss_nil)
      (C8.pss_cut (ps_expr (pe_bm PySem.F.plainAttrs_list PySem.F.slot_list_append PySem.F.type_list_append mt_append (pv 10) (pa_cons (pe_tup (pa_cons pe_int (pa_cons pe_int (pa_cons (pe_call T.GE hr4 (by rfl) T.gE T.FE.kp bE vE pass0 (pa_cons pe_int pa_nil)) pa_nil)))) pa_nil)))
      (pss_one (ps_if (pt_cmpR (op_neD hu) (pe_lc (own := [("_law_k", 11), ("_law_q", 12), ("_law_number", 13)]) (g := gTup K 3 (gCons (gName 11) (gCons (gName 12) (gCons (gName 13) gNil)))) (tt := tYes) (te := (tTup (tCons (tVar 11) (tCons (tVar 12) (tCons (tFld K (tVar 13) "parts") tNil))))) (by rfl) scLaw.nd (pi_list (pe_callN T.GR hr7 (by rfl) T.gR T.FR.kp kbR2 pass0 (pa_cons (pv 7) pa_nil) (pk_cons (pv 5) (pk_cons (pv 4) pk_nil))))
          (blkOk_by (N := nLaw) (sc := defScope sLaw) (by decide +kernel)) (fun _ _ _ _ _ => pg_tup rfl (pgs_cons (pg_name (i := 11) scLaw.nd rfl (.inl rfl)) (pgs_cons (pg_name (i := 12) scLaw.nd rfl (.inl rfl)) (pgs_cons (pg_name (i := 13) scLaw.nd rfl (.inl rfl)) pgs_nil)))) (fun _ _ _ _ _ => pts_nil) (fun _ _ _ _ _ => (pe_tup (pa_cons (pv 11) (pa_cons (pv 12) (pa_cons (pe_fld (pv 13) rfl) pa_nil)))))) (pv 9) (nomark _)) (pss_one (ps_ret pe_bl)) pss_nil)))))))))))))))
      (pss_one (ps_ret pe_bl)))), ?_⟩
  refine ⟨_, rfl, a0, ns, rfl, hS, hn, fun p c ms H1 s1 hp0 hp hc hpc => ?_⟩
  have pen1 : PenAt H1 p c ms 0 := ⟨0, hp, hc, hpc⟩
  refine ⟨_, rfl, p, c, ms, 0, 4, rfl, pen1, by decide, by decide, by decide, by decide, fun d0 n1 H2 e0 e1 x0 x1 q1 t1 => ?_⟩
  refine ⟨1, d0, rfl, rfl, 1 + d0, rfl, by omega, by omega, ?_⟩
  refine for_range (n := (1 + d0).toNat) (fun i σ G => ∃ (v2 v3 v4 v5 v6 v7 v8 v9 v10 v14 v16 : Option V) (n : Int), σ = [some (.ref a0), some (.ref p), v2, v3, v4, v5, v6, v7, v8, v9, v10, none, none, none, v14, none, v16] ∧ 0 ≤ n ∧ n ≤ 1 + 500 * ((i : Nat) : Int) ∧ PenAt G p c ms n)
    ⟨none, none, none, none, none, none, none, none, none, none, none, n1, rfl, by omega, by omega, q1⟩ (fun i σ G hi hP => ?_) (fun σ G hP => ?_)
  rotate_left
  · obtain ⟨_, _, _, _, _, _, _, _, _, _, _, _, rfl, _⟩ := hP
    exact q G
  obtain ⟨v2, v3, v4, v5, v6, v7, v8, v9, v10, v14, v16, n, rfl, n0, n9, pen⟩ := hP
  have i4 : ((i : Nat) : Int) < 4 := by omega
  obtain ⟨bo, eb⟩ : ∃ bo : Int, 0 + ((i : Nat) : Int) = bo := ⟨_, rfl⟩
  rw [eb]
  -- how far
  refine ⟨fun σ G1 => ∃ far n1 : Int, σ = [some (.ref a0), some (.ref p), some (.int bo), some (.int far), v4, v5, v6, v7, v8, v9, v10, none, none, none, v14, none, v16] ∧ 1 ≤ far ∧ far ≤ 9 ∧ n ≤ n1 ∧ n1 ≤ n + 1 ∧ PenAt G1 p c ms n1, ?_, fun σ G1 hh => ?_⟩
  · refine ⟨by show 3 ≤ sizeLine; decide, fun l hl => ?_⟩
    have sl := same_upd (o := .lst [.int 3, .int 5, .int 9]) hl
    refine ⟨_, rfl, p, c, ms, n, 3, rfl, pen.same sl, n0, by omega, by decide, by decide, fun e n2 G2 e0 e1 x0 x1 q1 t1 => ?_⟩
    have hL := t1 _ _ (PenAt.ne pen hl) upd_same
    refine ⟨rfl, .inr ⟨_, rfl, _, rfl, rfl, .inr ⟨_, rfl, ?_⟩⟩⟩
    obtain ⟨x, ex, xb⟩ : ∃ x : Int, (if decide (V.int e = V.int 0) = true then (1 : Int) else 0) + (if decide (V.int bo = V.int 0) = true then (1 : Int) else 0) = x ∧ (x = 0 ∨ x = 1 ∨ x = 2) := ⟨_, rfl, by split <;> split <;> omega⟩
    refine ⟨_, _, rfl, rfl, ?_⟩
    rcases xb with xb | xb | xb
    · exact ⟨l, _, 0, _, rfl, congrArg V.int (ex.trans xb), SqL.of hL, atI_nat (j := 0) rfl, 3, n2, rfl, by decide, by decide, x0, x1, q1⟩
    · exact ⟨l, _, 1, _, rfl, congrArg V.int (ex.trans xb), SqL.of hL, atI_nat (j := 1) rfl, 5, n2, rfl, by decide, by decide, x0, x1, q1⟩
    · exact ⟨l, _, 2, _, rfl, congrArg V.int (ex.trans xb), SqL.of hL, atI_nat (j := 2) rfl, 9, n2, rfl, by decide, by decide, x0, x1, q1⟩
  obtain ⟨far, n2, rfl, f1, f9, z0, z1, pen2⟩ := hh
  -- the sizes
  refine ⟨fun σ G2 => ∃ a b n3 : Int, σ = [some (.ref a0), some (.ref p), some (.int bo), some (.int far), some (.int a), some (.int b), v6, v7, v8, v9, v10, none, none, none, v14, none, v16] ∧ 0 ≤ a ∧ a ≤ 8 ∧ 0 ≤ b ∧ b ≤ 8 ∧ n2 ≤ n3 ∧ n3 ≤ n2 + 2 ∧ PenAt G2 p c ms n3, ?_, fun σ G2 hh => ?_⟩
  · refine ⟨_, rfl, _, rfl, p, c, ms, n2, far, rfl, pen2, by omega, by omega, by omega, Int.lt_of_le_of_lt (b := 64) (by omega) (by decide), fun e n3 G2 e0 e1 x0 x1 q1 t1 => ?_⟩
    refine ⟨_, rfl, _, rfl, p, c, ms, n3, far, rfl, q1, by omega, by omega, by omega, Int.lt_of_le_of_lt (b := 64) (by omega) (by decide), fun e' n4 G3 e0' e1' x0' x1' q2 t2 => ?_⟩
    exact ⟨_, _, rfl, e, e', n4, rfl, e0, by omega, e0', by omega, by omega, by omega, q2⟩
  obtain ⟨a1, b1, n3, rfl, a10, a18, b10, b18, z2, z3, pen3⟩ := hh
  refine ⟨fun σ G3 => ∃ a b n4 : Int, σ = [some (.ref a0), some (.ref p), some (.int bo), some (.int far), some (.int a), some (.int b), v6, v7, v8, v9, v10, none, none, none, v14, none, v16] ∧ 0 ≤ a ∧ a ≤ 8 ∧ 0 ≤ b ∧ b ≤ 8 ∧ n3 ≤ n4 ∧ n4 ≤ n3 + 3 ∧ PenAt G3 p c ms n4, ?_, fun σ G3 hh => ?_⟩
  · by_cases bz : bo = 0
    rotate_left
    · refine ⟨_, rfl, rfl, false, congrArg V.bl (decide_eq_false fun e => bz (V.int.inj e)), iteF (iteF ⟨a1, b1, n3, rfl, a10, a18, b10, b18, by omega, by omega, pen3⟩)⟩
    refine ⟨_, rfl, rfl, true, congrArg V.bl (decide_eq_true (congrArg V.int bz)), iteT ?_⟩
    refine ⟨_, rfl, p, c, ms, n3, 2, rfl, pen3, by omega, by omega, by decide, by decide, fun e n4 G3 e0 e1 x0 x1 q1 t1 => ?_⟩
    by_cases ez : e = 0
    rotate_left
    · exact ⟨rfl, false, congrArg V.bl (decide_eq_false fun e' => ez (V.int.inj e')), iteF ⟨a1, b1, n4, rfl, a10, a18, b10, b18, by omega, by omega, q1⟩⟩
    refine ⟨rfl, true, congrArg V.bl (decide_eq_true (congrArg V.int ez)), iteT ?_⟩
    refine ⟨_, rfl, p, c, ms, n4, 2, rfl, q1, by omega, by omega, by decide, by decide, fun u n5 G4 u0 u1 y0 y1 q2 t2 => ?_⟩
    refine ⟨7, u, rfl, rfl, _, rfl, p, c, ms, n5, 2, rfl, q2, by omega, by omega, by decide, by decide, fun u' n6 G5 u0' u1' y0' y1' q3 t3 => ?_⟩
    exact ⟨7, u', rfl, rfl, _, _, rfl, 7 + u, 7 + u', n6, rfl, by omega, by omega, by omega, by omega, by omega, by omega, q3⟩
  obtain ⟨a, b, n4, rfl, a_0, a8, b_0, b8, z4, z5, pen4⟩ := hh
  -- the linking
  refine ⟨fun σ G4 => ∃ (dS dN : Addr) (ks : List (Int × Int)) (fs fv : Int × Int → V) (N : Int × Int → List Part) (D : Nat) (n5 : Int), σ = [some (.ref a0), some (.ref p), some (.int bo), some (.int far), some (.int a), some (.int b), some (.ref dS), some (.ref dN), v8, v9, v10, none, none, none, v14, none, v16] ∧ LkP C G4 dS dN a b ks fs fv N D ∧ LnkB ks N D ∧ n4 ≤ n5 ∧ n5 ≤ n4 + 401 ∧ PenAt G4 p c ms n5, ?_, fun σ G4 hh => ?_⟩
  · refine ⟨by show 2 ≤ sizeLine; decide, fun l hl => ?_⟩
    have sl := same_upd (o := .lst [.ref fLk, .ref fOT]) hl
    refine ⟨_, rfl, p, c, ms, n4, 2, rfl, pen4.same sl, by omega, by omega, by decide, by decide, fun e n5 G5 e0 e1 x0 x1 q1 t1 => ?_⟩
    have hL := t1 _ _ (PenAt.ne pen4 hl) upd_same
    have e01 : e = 0 ∨ e = 1 := by omega
    rcases e01 with rfl | rfl
    · refine ⟨l, _, 0, _, rfl, rfl, SqL.of hL, atI_nat (j := 0) rfl, fLk, spLinkL C, rfl, ⟨⟨fdLk, _, T.GLk, T.kLk, T.bLk⟩⟩, _, rfl, _, rfl, _, rfl, p, c, ms, n5, a, b, rfl, q1, by omega, by omega, a_0, a8, b_0, b8, ?_⟩
      intro t dS dN ks fs fv N D n' H' ht lk B l2 m0 m1 p5 sb
      exact ⟨t, _, rfl, SqT.of ht, rfl, _, _, rfl, _, _, rfl, rfl, dS, dN, ks, fs, fv, N, D, n', rfl, lk, B, by omega, by omega, p5⟩
    · refine ⟨l, _, 1, _, rfl, rfl, SqL.of hL, atI_nat (j := 1) rfl, fOT, spLinkL C, rfl, ⟨⟨fdOT, _, T.GOT, T.kOT, T.bOT⟩⟩, _, rfl, _, rfl, _, rfl, p, c, ms, n5, a, b, rfl, q1, by omega, by omega, a_0, a8, b_0, b8, ?_⟩
      intro t dS dN ks fs fv N D n' H' ht lk B l2 m0 m1 p5 sb
      exact ⟨t, _, rfl, SqT.of ht, rfl, _, _, rfl, _, _, rfl, rfl, dS, dN, ks, fs, fv, N, D, n', rfl, lk, B, by omega, by omega, p5⟩
  obtain ⟨dS, dN, ks, fs, fv, N, D, n5, rfl, lk, B, z6, z7, pen5⟩ := hh
  obtain ⟨R, eR⟩ : ∃ R, rowsL ks N a b (kqL a b (mAB a b + 1)) = R := ⟨_, rfl⟩
  obtain ⟨rk, erk⟩ : ∃ rk, ranksL ks N a b = rk := ⟨_, rfl⟩
  have erk' : rk = R.map fun y => y.1.1 := by rw [← erk, ← eR]; rfl
  have lR : R.length ≤ 225 := by rw [← eR]; exact rowsL_len a_0 a8 b_0 b8
  -- the copy
  refine ⟨fun σ G5 => ∃ dM : Addr, σ = [some (.ref a0), some (.ref p), some (.int bo), some (.int far), some (.int a), some (.int b), some (.ref dS), some (.ref dN), some (.ref dM), v9, v10, none, none, none, v14, none, v16] ∧ Same G4 G5 ∧ G5 dM = some (.dT (entT kP ks fv)), ⟨_, rfl, dN, _, rfl, lk.n.at_, hash_nd a8 b8 lk.n.nd lk.n.off, fun dM hM => ⟨dM, rfl, same_upd hM, upd_same⟩⟩, fun σ G5 hh => ?_⟩
  obtain ⟨dM, rfl, s5, hM⟩ := hh
  -- what is due
  refine ⟨fun σ G6 => ∃ (lD : Addr) (us : List Addr), σ = [some (.ref a0), some (.ref p), some (.int bo), some (.int far), some (.int a), some (.int b), some (.ref dS), some (.ref dN), some (.ref dM), some (.ref lD), v10, none, none, none, v14, none, v16] ∧ Same G5 G6 ∧ G6 lD = some (.lst (us.map V.ref)) ∧ DueAt G6 us R, ?_, fun σ G6 hh => ?_⟩
  · have lk5 := lk.same s5
    refine ⟨_, rfl, _, rfl, _, rfl, dS, a, b, ks, fs, N, D, rfl, lk5.s, lk.n.nd, lk.n.off, B, a_0, a8, b_0, b8, fun l us H' s hl hl1 hD => ⟨l, us, rfl, s, hl1, by rw [← eR]; exact hD⟩⟩
  obtain ⟨lD, ud, rfl, s6, hlD, hDu⟩ := hh
  -- what is told
  refine ⟨fun σ G7 => ∃ (lT : Addr) (us : List Addr), σ = [some (.ref a0), some (.ref p), some (.int bo), some (.int far), some (.int a), some (.int b), some (.ref dS), some (.ref dN), some (.ref dM), some (.ref lD), some (.ref lT), none, none, none, v14, none, v16] ∧ Same G6 G7 ∧ G6 lT = none ∧ G7 lT = some (.lst (us.map V.ref)) ∧ RowsAt C G7 us R, ?_, fun σ G7 hh => ?_⟩
  · refine ⟨_, rfl, _, rfl, _, rfl, rfl, rfl, dN, a, b, ks, fv, N, D, rfl, (lk.same (s5.trans s6)).n, B, a_0, a8, b_0, b8, fun l us H' s hl hl1 hR => ⟨l, us, rfl, s, hl, hl1, by rw [← eR]; exact hR⟩⟩
  obtain ⟨lT, ut, rfl, s7, nT, hlT, hRw⟩ := hh
  have s47 := (s5.trans s6).trans s7
  have lk7 := lk.same s47
  have pen7 := pen5.same s47
  have hlD7 := s7 _ _ hlD
  have hDu7 := hDu.same s7
  have hM7 := s7 _ _ (s6 _ _ hM)
  have lut := hRw.len
  -- both alike, and nothing changed
  refine ⟨fun σ G8 => σ = [some (.ref a0), some (.ref p), some (.int bo), some (.int far), some (.int a), some (.int b), some (.ref dS), some (.ref dN), some (.ref dM), some (.ref lD), some (.ref lT), none, none, none, v14, none, v16] ∧ Same G7 G8, ?_, fun σ G8 hh => ?_⟩
  · refine ⟨_, rfl, lT, rfl, ⟨_, SqL.of hlT⟩, fun D' hD' => lc_list (xs := ut.map V.ref) (fun i G => Same G7 G ∧ ∃ vs : List Addr, G D' = some (.lst (vs.map V.ref)) ∧ DueAt G vs (R.take i)) ⟨same_upd hD', [], upd_same, DueAt.nil _⟩ (fun i G _ hP => SqL.of (hP.1 _ _ hlT)) (fun i x G hx hP => ?_) (fun G hP => ?_)⟩
    · obtain ⟨sG, vs, hG, hV⟩ := hP
      rw [List.getElem?_map] at hx
      obtain ⟨u, hu', rfl⟩ := Option.map_eq_some_iff.mp hx
      have il : i < ut.length := (List.getElem?_eq_some_iff.mp hu').1
      obtain ⟨y, hy⟩ : ∃ y, R[i]? = some y := ⟨_, List.getElem?_eq_getElem (by omega)⟩
      obtain ⟨z, hz, hN⟩ := hRw.at_ i u y hu' hy
      have tk : R.take (i + 1) = R.take i ++ [y] := by
        rw [List.take_add_one, hy]
        rfl
      obtain ⟨dx, px, hN1, hN2⟩ := hN.same sG
      refine ⟨u, _, rfl, SqT.of (sG _ _ hz), rfl, _, _, rfl, _, _, rfl, _, _, rfl, rfl, rfl, ?_⟩
      refine ⟨_, rfl, _, rfl, _, rfl, z, C, dx, _, _, rfl, hN1, TN.cl, TN.nP, rfl, by show 3 ≤ sizeLine; decide, fun t ht => ?_⟩
      have st := same_upd (o := .tup [.int y.1.1, .int y.1.2, .ref px]) ht
      have hG' := st _ _ hG
      refine ⟨_, hG', ?_, ?_, vs ++ [t], ?_, ?_⟩
      · rw [List.length_map, hV.len]
        have := List.length_take_le' i R
        exact Nat.lt_of_le_of_lt (m := 225) (by omega) (by decide)
      · exact same_at (sG.trans st) hD'
      · rw [upd_same, List.map_append]
        rfl
      · rw [tk]
        exact ((hV.same st).snoc (y := y) upd_same (hN2.same st)).updLs hG'
    · obtain ⟨sG, vs, hG, hV⟩ := hP
      rw [List.length_map, lut, List.take_length] at hV
      refine ⟨_, rfl, .list (R.map rowD), .list (R.map rowD), .lst (SqL.of hG) hV.dp, .lst (SqL.of (sG _ _ hlD7)) (hDu7.same sG).dp, rowsD_shaped R, rowsD_shaped R, false, congrArg (fun b => V.bl (!b)) (rowsD_refl R), iteF ?_⟩
      refine ⟨_, rfl, _, rfl, dN, dM, _, rfl, rfl, sG _ _ lk7.n.at_, sG _ _ hM7, fun e he => ?_, false, rfl, iteF ⟨rfl, sG⟩⟩
      unfold entT at he
      obtain ⟨k, hk, rfl⟩ := List.mem_map.mp he
      obtain ⟨x, ex, _⟩ := lk7.n.num k hk
      exact ⟨by rw [val_entT kP_inj, if_pos hk], x, ex⟩
  obtain ⟨rfl, s8⟩ := hh
  -- the sizes told
  refine ⟨fun σ G9 => ∃ lk : Addr, σ = [some (.ref a0), some (.ref p), some (.int bo), some (.int far), some (.int a), some (.int b), some (.ref dS), some (.ref dN), some (.ref dM), some (.ref lD), some (.ref lT), none, none, none, some (.ref lk), none, v16] ∧ Same G8 G9 ∧ G9 lk = some (.lst (rk.map V.int)), ?_, fun σ G9 hh => ?_⟩
  · have hD8 := s8 _ _ hlD7
    have hDu8 := hDu7.same s8
    have lud := hDu.len
    refine ⟨_, rfl, lD, rfl, ⟨_, SqL.of hD8⟩, fun D' hD' => lc_list (xs := ud.map V.ref) (fun i G => Same G8 G ∧ G D' = some (.lst ((rk.take i).map V.int))) ⟨same_upd hD', upd_same⟩ (fun i G _ hP => SqL.of (hP.1 _ _ hD8)) (fun i x G hx hP => ?_) (fun G hP => ?_)⟩
    · obtain ⟨sG, hG⟩ := hP
      rw [List.getElem?_map] at hx
      obtain ⟨u, hu', rfl⟩ := Option.map_eq_some_iff.mp hx
      have il : i < ud.length := (List.getElem?_eq_some_iff.mp hu').1
      obtain ⟨y, hy⟩ : ∃ y, R[i]? = some y := ⟨_, List.getElem?_eq_getElem (by omega)⟩
      obtain ⟨z, hz, _⟩ := hDu8.at_ i u y hu' hy
      have tk : rk.take (i + 1) = rk.take i ++ [y.1.1] := by
        rw [erk', List.take_add_one, List.getElem?_map, hy]
        rfl
      refine ⟨u, _, rfl, SqT.of (sG _ _ hz), rfl, _, _, rfl, _, _, rfl, _, _, rfl, rfl, rfl, ?_⟩
      refine ⟨_, rfl, _, hG, ?_, same_at sG hD', ?_⟩
      · rw [List.length_map]
        have := List.length_take_le' i rk
        have : rk.length ≤ 225 := by rw [erk', List.length_map]; exact lR
        exact Nat.lt_of_le_of_lt (m := 225) (by omega) (by decide)
      · rw [upd_same, tk, List.map_append]
        rfl
    · obtain ⟨sG, hG⟩ := hP
      have e : ud.length = rk.length := by rw [erk', List.length_map, lud]
      rw [List.length_map, e, List.take_length] at hG
      exact ⟨D', rfl, sG, hG⟩
  obtain ⟨lK, rfl, s9, hK⟩ := hh
  -- the one size
  refine ⟨fun σ G10 => σ = [some (.ref a0), some (.ref p), some (.int bo), some (.int far), some (.int a), some (.int b), some (.ref dS), some (.ref dN), some (.ref dM), some (.ref lD), some (.ref lT), none, none, none, some (.ref lK), none, some (rankV rk)] ∧ Same G9 G10, ?_, fun σ G10 hh => ?_⟩
  · refine ⟨_, rfl, by show 0 ≤ sizeLine; decide, fun l' hl' => ?_⟩
    have sl := same_upd (o := .lst []) hl'
    have hK' := sl _ _ hK
    refine ⟨.list (dInts rk), .list (dInts []), .lst (SqL.of hK') (ints_dp rk), .lst (SqL.of upd_same) .nil, ints_sh rk, rfl, !decide (rk = []), congrArg (fun b => V.bl (!b)) (ints_eqv rk []), ?_⟩
    have RL := rankV_law rk
    cases rk with
    | nil => exact ⟨rfl, sl⟩
    | cons n0' ns' =>
      rw [decide_eq_false (by simp)]
      refine iteT ?_
      refine ⟨_, rfl, .inl ⟨rfl, _, SqL.of hK'⟩, _, rfl, lK, _, 0, _, rfl, rfl, SqL.of hK', atI_nat (j := 0) rfl, lK, _, .int n0', rfl, rfl, SqL.of hK', rfl, flat_ints _, ?_⟩
      refine ⟨_, rfl, lK, _, rfl, .inl (SqL.of hK'), ?_⟩
      rw [if_neg (by simp)] at RL
      have ec := count_ints n0' (n0' :: ns')
      have el : ((n0' :: ns').map V.int).length = (n0' :: ns').length := List.length_map _
      by_cases z : (n0' :: ns').countP (fun z => decide (z = n0')) = (n0' :: ns').length
      · rw [show ((n0' :: ns').headD 0) = n0' from rfl, if_pos z] at RL
        refine ⟨rfl, true, congrArg V.bl (decide_eq_true (congrArg V.int (by rw [ec, el, z]))), iteT ?_⟩
        exact ⟨_, rfl, lK, _, 0, _, rfl, rfl, SqL.of hK', atI_nat (j := 0) rfl, by rw [← RL]; rfl, sl⟩
      · rw [show ((n0' :: ns').headD 0) = n0' from rfl, if_neg z] at RL
        refine ⟨rfl, false, congrArg V.bl (decide_eq_false fun e => z ?_), iteF ⟨by rw [← RL]; rfl, sl⟩⟩
        have := V.int.inj e
        rw [ec, el] at this
        omega
  obtain ⟨rfl, s10⟩ := hh
  have s710 := (s8.trans s9).trans s10
  -- rank_of
  refine ⟨fun σ G11 => σ = [some (.ref a0), some (.ref p), some (.int bo), some (.int far), some (.int a), some (.int b), some (.ref dS), some (.ref dN), some (.ref dM), some (.ref lD), some (.ref lT), none, none, none, some (.ref lK), none, some (rankV rk)] ∧ Same G10 G11, ?_, fun σ G11 hh => ?_⟩
  · refine ⟨_, rfl, _, rfl, _, rfl, rfl, rfl, dN, a, b, ks, fv, N, D, rfl, (lk7.same s710).n, B, a_0, a8, b_0, b8, fun H' s' => ?_⟩
    rw [erk]
    refine ⟨_, rfl, scal_rank rk, false, congrArg (fun b => V.bl (!b)) (decide_eq_true rfl), iteF ⟨rfl, s'⟩⟩
  obtain ⟨rfl, s11⟩ := hh
  have s711 := s710.trans s11
  have hlT11 := s711 _ _ hlT
  have pen11 := pen7.same s711
  have lk11 := lk7.same s711
  have hD11 := s711 _ _ hlD7
  have hDu11 := hDu7.same s711
  have nTp : lT ≠ p := PenAt.ne (pen5.same (s5.trans s6)) nT
  have nTc : lT ≠ c := fun e => by
    obtain ⟨_, _, h2, _⟩ := pen5.same (s5.trans s6)
    rw [← e, nT] at h2
    cases h2
  have nTD : lT ≠ lD := fun e => by
    rw [e, hlD] at nT
    cases nT
  -- one more of what was told
  refine ⟨fun σ G12 => σ = [some (.ref a0), some (.ref p), some (.int bo), some (.int far), some (.int a), some (.int b), some (.ref dS), some (.ref dN), some (.ref dM), some (.ref lD), some (.ref lT), none, none, none, some (.ref lK), none, some (rankV rk)] ∧ LnkAt C G12 dN a b ks fv N ∧ G12 lD = some (.lst (ud.map V.ref)) ∧ DueAt G12 ud R ∧ PenAt G12 p c ms n5, ?_, fun σ G12 hh => ?_⟩
  · refine ⟨_, rfl, .inl ⟨rfl, _, SqL.of hlT11⟩, ?_⟩
    refine ⟨1, 1, 1, 40, rfl, by decide, by decide, by decide, by decide, root_ok1, fun x H2 s2 hx hN => ?_⟩
    refine ⟨by show 3 ≤ sizeLine; decide, fun t ht => ?_⟩
    have st := same_upd (o := .tup [.int 0, .int 0, .ref x]) ht
    have hl2 := st _ _ (s2 _ _ hlT11)
    have sA := s2.trans st
    refine ⟨lT, _, .ref t, rfl, rfl, hl2, Nat.lt_of_le_of_lt (m := 225) (by rw [List.length_map]; omega) (by decide), rfl, (lk11.n.same sA).updLs hl2, ?_, (hDu11.same sA).updLs hl2, (pen11.same sA).updLs nTp nTc⟩
    rw [upd_ne nTD.symm]
    exact sA _ _ hD11
  obtain ⟨rfl, lk12, hD12, hDu12, pen12⟩ := hh
  -- once more
  refine ⟨_, rfl, _, rfl, _, rfl, rfl, rfl, dN, a, b, ks, fv, N, D, rfl, lk12, B, a_0, a8, b_0, b8, fun l us G7' s12 hl hl1 hR => ?_⟩
  rw [eR] at hR
  have lus := hR.len
  refine ⟨l, rfl, ⟨_, SqL.of hl1⟩, fun D' hD' => lc_list (xs := us.map V.ref) (fun i G => Same G7' G ∧ ∃ vs : List Addr, G D' = some (.lst (vs.map V.ref)) ∧ DueAt G vs (R.take i)) ⟨same_upd hD', [], upd_same, DueAt.nil _⟩ (fun i G _ hP => SqL.of (hP.1 _ _ hl1)) (fun i x G hx hP => ?_) (fun G hP => ?_)⟩
  · obtain ⟨sG, vs, hG, hV⟩ := hP
    rw [List.getElem?_map] at hx
    obtain ⟨u, hu', rfl⟩ := Option.map_eq_some_iff.mp hx
    have il : i < us.length := (List.getElem?_eq_some_iff.mp hu').1
    obtain ⟨y, hy⟩ : ∃ y, R[i]? = some y := ⟨_, List.getElem?_eq_getElem (by omega)⟩
    obtain ⟨z, hz, hN⟩ := hR.at_ i u y hu' hy
    have tk : R.take (i + 1) = R.take i ++ [y] := by
      rw [List.take_add_one, hy]
      rfl
    obtain ⟨dx, px, hN1, hN2⟩ := hN.same sG
    refine ⟨u, _, rfl, SqT.of (sG _ _ hz), rfl, _, _, rfl, _, _, rfl, _, _, rfl, rfl, rfl, ?_⟩
    refine ⟨_, rfl, _, rfl, _, rfl, z, C, dx, _, _, rfl, hN1, TN.cl, TN.nP, rfl, by show 3 ≤ sizeLine; decide, fun t ht => ?_⟩
    have st := same_upd (o := .tup [.int y.1.1, .int y.1.2, .ref px]) ht
    have hG' := st _ _ hG
    refine ⟨_, hG', ?_, ?_, vs ++ [t], ?_, ?_⟩
    · rw [List.length_map, hV.len]
      have := List.length_take_le' i R
      exact Nat.lt_of_le_of_lt (m := 225) (by omega) (by decide)
    · exact same_at (sG.trans st) hD'
    · rw [upd_same, List.map_append]
      rfl
    · rw [tk]
      exact ((hV.same st).snoc (y := y) upd_same (hN2.same st)).updLs hG'
  · obtain ⟨sG, vs, hG, hV⟩ := hP
    rw [List.length_map, lus, List.take_length] at hV
    refine ⟨_, rfl, .list (R.map rowD), .list (R.map rowD), .lst (SqL.of hG) hV.dp, .lst (SqL.of (sG _ _ (s12 _ _ hD12))) ((hDu12.same s12).same sG).dp, rowsD_shaped R, rowsD_shaped R, false, congrArg (fun b => V.bl (!b)) (rowsD_refl R), iteF ?_⟩
    exact ⟨_, _, _, _, _, _, _, _, _, _, _, n5, rfl, by omega, by omega, (pen12.same s12).same sG⟩
end
end TC
namespace TC
open PySem PySem.Spec PyProof.Rows L2 TCA TCX 
theorem facts {P : Program} {w : World} {K : PySem.W.Frag} {h : Heap} {mg : Str → Option Value} {f : Addr} (X : K.In h) (G : h.Ns mainGlobals mg) (hfa : mg ("law" : Str) = some (.ref f)) (sx : He.SaysX fa fn [] tf exB w h K) :
    ∃ fd : FuncData, (∀ (s : Shared) (v : Value), BindsTo s fd ⟨[v], []⟩ [("_law_script", v)]) ∧ ∀ base : Heap, K.In base → base.Ns mainGlobals mg → FnOk P w K mg base CX0 9 f fd ["_law_script"] (spLaw K) := by
  have c := sx.t.d
  obtain ⟨fdI, FI⟩ := c.def_ 0 (d := dm "__init__" "Exact.__init__" sInit) rfl
  obtain ⟨fdEq, FEq⟩ := c.def_ 1 (d := dm "__eq__" "Exact.__eq__" sEq) rfl
  obtain ⟨fdE, FE⟩ := c.def_ 2 (d := dExact) rfl
  obtain ⟨fd3, F3⟩ := c.def_ 3 (d := dd "is_whole" sWhole) rfl
  obtain ⟨fd4, F4⟩ := c.def_ 4 (d := dd "shared" sShared) rfl
  obtain ⟨fd5, F5⟩ := c.def_ 5 (d := dd "in_lowest" sLowest) rfl
  obtain ⟨fd6, F6⟩ := c.def_ 6 (d := dd "sum_in_lowest" sSumLow) rfl
  obtain ⟨fd7, F7⟩ := c.def_ 7 (d := dd "squares_out" sSquares) rfl
  obtain ⟨fd8, F8⟩ := c.def_ 8 (d := dd "is_odd" sOdd) rfl
  obtain ⟨fd9, F9⟩ := c.def_ 9 (d := dd "factorials" sFacts) rfl
  obtain ⟨fd10, F10⟩ := c.def_ 10 (d := dd "primes_of_factorials" sPrimesF) rfl
  obtain ⟨fd11, F11⟩ := c.def_ 11 (d := dd "plus" sPlus) rfl
  obtain ⟨fd12, F12⟩ := c.def_ 12 (d := dd "times" sTimes) rfl
  obtain ⟨fd13, F13⟩ := c.def_ 13 (d := dd "root_of_factorials" sRootF) rfl
  obtain ⟨fd14, F14⟩ := c.def_ 14 (d := dd "need_exact" sNeed) rfl
  obtain ⟨fd15, F15⟩ := c.def_ 15 (d := dd "merged" sMerged) rfl
  obtain ⟨fd16, F16⟩ := c.def_ 16 (d := dd "on_one_bottom" sOneBottom) rfl
  obtain ⟨fd17, F17⟩ := c.def_ 17 (d := dd "lowered" sLowered) rfl
  obtain ⟨fd18, F18⟩ := c.def_ 18 (d := dd "products" sProducts) rfl
  obtain ⟨fd19, F19⟩ := c.def_ 19 (d := dd "offsets" sOffsets) rfl
  obtain ⟨fd20, F20⟩ := c.def_ 20 (d := dd "sizes_of" sSizesOf) rfl
  obtain ⟨fd21, F21⟩ := c.def_ 21 (d := dd "is_size" sIsSize) rfl
  obtain ⟨fd22, F22⟩ := c.def_ 22 (d := dd "is_offset" sIsOffset) rfl
  obtain ⟨fd23, F23⟩ := c.def_ 23 (d := dd "need_sizes" sNeedSizes) rfl
  obtain ⟨fd24, F24⟩ := c.def_ 24 (d := dd "can_join" sCanJoin) rfl
  obtain ⟨fd25, F25⟩ := c.def_ 25 (d := dd "joined_number" sJoinedN) rfl
  obtain ⟨fd26, F26⟩ := c.def_ 26 (d := dd "terms_of_joined" sTerms) rfl
  obtain ⟨fd27, F27⟩ := c.def_ 27 (d := dd "resolved" sResolved) rfl
  obtain ⟨fd28, F28⟩ := c.def_ 28 (d := dd "rank_of" sRankOf) rfl
  obtain ⟨fd29, F29⟩ := c.def_ 29 (d := dd "need_linked_sizes" sNeedLinked) rfl
  obtain ⟨fd30, F30⟩ := c.def_ 30 (d := dd "need_linking" sNeedLinking) rfl
  obtain ⟨fd31, F31⟩ := c.def_ 31 (d := dd "places_of" sPlacesOf) rfl
  obtain ⟨fd32, F32⟩ := c.def_ 32 (d := dd "tensor_in" sTensorIn) rfl
  obtain ⟨fd33, F33⟩ := c.def_ 33 (d := dd "_law_pen" sPen) rfl
  obtain ⟨fd34, F34⟩ := c.def_ 34 (d := dd "_law_draw" sDraw) rfl
  obtain ⟨fd35, F35⟩ := c.def_ 35 (d := dd "_law_low" sLow) rfl
  obtain ⟨fd36, F36⟩ := c.def_ 36 (d := dd "_law_cleared" sCleared) rfl
  obtain ⟨fd37, F37⟩ := c.def_ 37 (d := dd "_law_sum" sSum) rfl
  obtain ⟨fd38, F38⟩ := c.def_ 38 (d := dd "_law_by" sBy) rfl
  obtain ⟨fd39, F39⟩ := c.def_ 39 (d := dd "_law_common" sCommon) rfl
  obtain ⟨fd40, F40⟩ := c.def_ 40 (d := dd "_law_product" sProduct) rfl
  obtain ⟨fd41, F41⟩ := c.def_ 41 (d := dd "_law_parts" sParts) rfl
  obtain ⟨fd42, F42⟩ := c.def_ 42 (d := dd "_law_rooted" sRooted) rfl
  obtain ⟨fd43, F43⟩ := c.def_ 43 (d := dd "_law_factorial" sFactorial) rfl
  obtain ⟨fd44, F44⟩ := c.def_ 44 (d := dd "_law_two" sTwo) rfl
  obtain ⟨fd45, F45⟩ := c.def_ 45 (d := dd "_law_linking" sLinkingL) rfl
  obtain ⟨fd46, F46⟩ := c.def_ 46 (d := dd "_law_one_tensor" sOneTensorL) rfl
  obtain ⟨fd47, F47⟩ := c.def_ 47 (d := dd "_law_due" sDueL) rfl
  obtain ⟨fd48, F48⟩ := c.def_ 48 (d := dd "law" sLaw) rfl
  have glo : ∀ (i : Nat) (x : Str), TC.fa[i]? = some (.glo x) → mg x = some (.ref (He.ga K x)) := fun i x e => He.glo_ok X G (c.fact i (f := .glo x) e)
  have free : ∀ (i : Nat) (x : Str), TC.fa[i]? = some (.free x) → mg x = none := fun i x e => He.free_ok X G (c.fact i (f := .free x) e)
  obtain ⟨ti_HIGHEST_ROOT, gi_HIGHEST_ROOT⟩ := He.int_ok X G (c.fact 3 (f := .int "HIGHEST_ROOT" 1000000) rfl)
  obtain ⟨ti_HIGHEST_SIZE, gi_HIGHEST_SIZE⟩ := He.int_ok X G (c.fact 4 (f := .int "HIGHEST_SIZE" 40) rfl)
  obtain ⟨ti_HIGHEST_OF_LINKING, gi_HIGHEST_OF_LINKING⟩ := He.int_ok X G (c.fact 5 (f := .int "HIGHEST_OF_LINKING" 8) rfl)
  obtain ⟨xn, xe⟩ := He.ba sx.more
  obtain ⟨xP, ex⟩ := He.ba xn
  obtain ⟨xN, ex⟩ := He.ba ex
  obtain ⟨xC, ex⟩ := He.ba ex
  obtain ⟨xG, ex⟩ := He.ba ex
  obtain ⟨xT, ex⟩ := He.ba ex
  obtain ⟨xM, xO⟩ := He.ba ex
  have T : TxtN K mg (He.ga K "Exact") (He.ma K (He.ga K "Exact") "__init__") (He.ma K (He.ga K "Exact") "__eq__") := {
    cl := He.cls_ok (c.fact 6 (f := .cls "Exact") rfl)
    nP := He.noat_ok (c.fact 7 (f := .noat "Exact" "parts") rfl)
    mkr := He.mkr_ok (c.fact 8 (f := .mkr "Exact") rfl)
    mq := He.meth_ok (c.fact 9 (f := .meth "Exact" "__eq__") rfl)
    mgC := glo 0 "Exact" rfl
    ne := He.eqO_ok xN
    ca := He.eqO_ok xC
    cn := He.eqO_ok xG
    ct := of_decide_eq_true xT
    cm := of_decide_eq_true xM }
  have hT : ∀ H, SqT K H (He.ga K "PRIMES") (primes.map V.int) := fun H => by
    have z := He.tupB_ok xP H
    rw [List.map_map] at z
    exact z
  have hT2 : ∀ H, SqT K H (He.ga K "PRIMES") (TCM.primes.map V.int) := hT
  have e := hfa.symm.trans (glo 55 "law" rfl)
  cases e
  have bI := FunD.bindsN (ps := ["self", "parts"]) FI fun _ _ _ _ _ _ us hl => match us, hl with | [_, _], _ => rfl
  have bEq := FunD.bindsN (ps := ["self", "other"]) FEq fun _ _ _ _ _ _ us hl => match us, hl with | [_, _], _ => rfl
  have b3 := FunD.bindsN (ps := ["thing"]) F3 fun _ _ _ _ _ _ us hl => match us, hl with | [_], _ => rfl
  have b4 := FunD.bindsN (ps := ["one", "other"]) F4 fun _ _ _ _ _ _ us hl => match us, hl with | [_, _], _ => rfl
  have b5 := FunD.bindsN (ps := ["top", "bottom"]) F5 fun _ _ _ _ _ _ us hl => match us, hl with | [_, _], _ => rfl
  have b6 := FunD.bindsN (ps := ["top", "bottom", "other", "below"]) F6 fun _ _ _ _ _ _ us hl => match us, hl with | [_, _, _, _], _ => rfl
  have b7 := FunD.bindsN (ps := ["number"]) F7 fun _ _ _ _ _ _ us hl => match us, hl with | [_], _ => rfl
  have b8 := FunD.bindsN (ps := ["number"]) F8 fun _ _ _ _ _ _ us hl => match us, hl with | [_], _ => rfl
  have b9 := FunD.bindsN (ps := ["high"]) F9 fun _ _ _ _ _ _ us hl => match us, hl with | [_], _ => rfl
  have b10 := FunD.bindsN (ps := ["above", "below"]) F10 fun _ _ _ _ _ _ us hl => match us, hl with | [_, _], _ => rfl
  have b11 := FunD.bindsN (ps := ["one", "other"]) F11 fun _ _ _ _ _ _ us hl => match us, hl with | [_, _], _ => rfl
  have b12 := FunD.bindsN (ps := ["one", "other"]) F12 fun _ _ _ _ _ _ us hl => match us, hl with | [_, _], _ => rfl
  have b13 := FunD.bindsN (ps := ["above", "below"]) F13 fun _ _ _ _ _ _ us hl => match us, hl with | [_, _], _ => rfl
  have b14 := FunD.bindsN (ps := ["thing"]) F14 fun _ _ _ _ _ _ us hl => match us, hl with | [_], _ => rfl
  have b15 := FunD.bindsN (ps := ["parts", "others"]) F15 fun _ _ _ _ _ _ us hl => match us, hl with | [_, _], _ => rfl
  have b16 := FunD.bindsN (ps := ["parts"]) F16 fun _ _ _ _ _ _ us hl => match us, hl with | [_], _ => rfl
  have b17 := FunD.bindsN (ps := ["tops", "bottom"]) F17 fun _ _ _ _ _ _ us hl => match us, hl with | [_, _], _ => rfl
  have b18 := FunD.bindsN (ps := ["tops", "others"]) F18 fun _ _ _ _ _ _ us hl => match us, hl with | [_, _], _ => rfl
  have b19 := FunD.bindsN (ps := ["size"]) F19 fun _ _ _ _ _ _ us hl => match us, hl with | [_], _ => rfl
  have b20 := FunD.bindsN (ps := ["one", "other"]) F20 fun _ _ _ _ _ _ us hl => match us, hl with | [_, _], _ => rfl
  have b21 := FunD.bindsN (ps := ["thing"]) F21 fun _ _ _ _ _ _ us hl => match us, hl with | [_], _ => rfl
  have b22 := FunD.bindsN (ps := ["thing", "size"]) F22 fun _ _ _ _ _ _ us hl => match us, hl with | [_, _], _ => rfl
  have b23 := FunD.bindsN (ps := ["things"]) F23 fun _ _ _ _ _ _ us hl => match us, hl with | [_], _ => rfl
  have b24 := FunD.bindsN (ps := ["one", "other", "third"]) F24 fun _ _ _ _ _ _ us hl => match us, hl with | [_, _, _], _ => rfl
  have b25 := FunD.bindsN (ps := ["one", "other", "to"]) F25 fun _ _ _ _ _ _ us hl => match us, hl with | [_, _, _], _ => rfl
  have b26 := FunD.bindsN (ps := ["one", "other", "c"]) F26 fun _ _ _ _ _ _ us hl => match us, hl with | [_, _, _], _ => rfl
  have b29 := FunD.bindsN (ps := ["by", "to"]) F29 fun _ _ _ _ _ _ us hl => match us, hl with | [_, _], _ => rfl
  have b30 := FunD.bindsN (ps := ["thing", "by", "to"]) F30 fun _ _ _ _ _ _ us hl => match us, hl with | [_, _, _], _ => rfl
  have b31 := FunD.bindsN (ps := ["q", "by", "to"]) F31 fun _ _ _ _ _ _ us hl => match us, hl with | [_, _, _], _ => rfl
  have b32 := FunD.bindsN (ps := ["linking", "pair", "by", "to"]) F32 fun _ _ _ _ _ _ us hl => match us, hl with | [_, _, _, _], _ => rfl
  have b33 := FunD.bindsN (ps := ["_law_script"]) F33 fun _ _ _ _ _ _ us hl => match us, hl with | [_], _ => rfl
  have b34 := FunD.bindsN (ps := ["_law_pen_here", "_law_many"]) F34 fun _ _ _ _ _ _ us hl => match us, hl with | [_, _], _ => rfl
  have b35 := FunD.bindsN (ps := ["_law_up", "_law_under"]) F35 fun _ _ _ _ _ _ us hl => match us, hl with | [_, _], _ => rfl
  have b36 := FunD.bindsN (ps := ["_law_some"]) F36 fun _ _ _ _ _ _ us hl => match us, hl with | [_], _ => rfl
  have b37 := FunD.bindsN (ps := ["_law_one", "_law_other"]) F37 fun _ _ _ _ _ _ us hl => match us, hl with | [_, _], _ => rfl
  have b38 := FunD.bindsN (ps := ["_law_one", "_law_up", "_law_under"]) F38 fun _ _ _ _ _ _ us hl => match us, hl with | [_, _, _], _ => rfl
  have b39 := FunD.bindsN (ps := ["_law_one", "_law_other"]) F39 fun _ _ _ _ _ _ us hl => match us, hl with | [_, _], _ => rfl
  have b40 := FunD.bindsN (ps := ["_law_one", "_law_other"]) F40 fun _ _ _ _ _ _ us hl => match us, hl with | [_, _], _ => rfl
  have b41 := FunD.bindsN (ps := ["_law_some"]) F41 fun _ _ _ _ _ _ us hl => match us, hl with | [_], _ => rfl
  have b42 := FunD.bindsN (ps := ["_law_up", "_law_under"]) F42 fun _ _ _ _ _ _ us hl => match us, hl with | [_, _], _ => rfl
  have b43 := FunD.bindsN (ps := ["_law_n"]) F43 fun _ _ _ _ _ _ us hl => match us, hl with | [_], _ => rfl
  have b44 := FunD.bindsN (ps := ["_law_a", "_law_u", "_law_b", "_law_v", "_law_c", "_law_w"]) F44 fun _ _ _ _ _ _ us hl => match us, hl with | [_, _, _, _, _, _], _ => rfl
  have b45 := FunD.bindsN (ps := ["_law_pen_here", "_law_a", "_law_b"]) F45 fun _ _ _ _ _ _ us hl => match us, hl with | [_, _, _], _ => rfl
  have b46 := FunD.bindsN (ps := ["_law_pen_here", "_law_a", "_law_b"]) F46 fun _ _ _ _ _ _ us hl => match us, hl with | [_, _, _], _ => rfl
  have b47 := FunD.bindsN (ps := ["_law_some", "_law_a", "_law_b"]) F47 fun _ _ _ _ _ _ us hl => match us, hl with | [_, _, _], _ => rfl
  have b := FunD.bindsA (ps := ["_law_script"]) F48 fun _ _ _ _ _ _ us hl => match us, hl with | [_], _ => rfl
  refine ⟨fd48, fun s v => b s [v] rfl, fun base _ _ => ?_⟩
  have G_law_pen := ok_pen (P := P) (w := w) (mg := mg) (base := base) F33 (free 68 "list" rfl)
  have G_law_draw := ok_draw (P := P) (w := w) (mg := mg) (base := base) F34 (free 70 "len" rfl)
  have G_is_whole := ok_whole (P := P) (w := w) (mg := mg) (base := base) F3 (free 63 "isinstance" rfl) (free 64 "int" rfl) (free 65 "bool" rfl)
  have G_squares_out := ok_squares (P := P) (w := w) (mg := mg) (base := base) F7 (glo 2 "PRIMES" rfl) hT2
  have G_shared := ok_shared (P := P) (w := w) (mg := mg) (base := base) F4 (free 66 "abs" rfl)
  have G_in_lowest := ok_lowest (P := P) (w := w) (mg := mg) (base := base) F5 G_shared b4 F4.kp (glo 11 "shared" rfl)
  have G_init := ok_init (P := P) (w := w) (mg := mg) (base := base) FI T
  have G_lowered := ok_lowered (P := P) (w := w) (mg := mg) (base := base) F17 T G_in_lowest b5 F5.kp (glo 12 "in_lowest" rfl) G_init bI (free 67 "sorted" rfl) (free 68 "list" rfl) (free 69 "tuple" rfl)
  have G_exact := ok_exact (P := P) (w := w) (mg := mg) (base := base) FE G_is_whole b3 F3.kp (glo 10 "is_whole" rfl) G_squares_out b7 F7.kp (glo 14 "squares_out" rfl) G_lowered b17 F17.kp (glo 24 "lowered" rfl) gi_HIGHEST_ROOT
  have G_law_cleared := ok_cleared (P := P) (w := w) (mg := mg) (base := base) F36 (free 73 "dict" rfl)
  have G_law_low := ok_lowL (P := P) (w := w) (mg := mg) (base := base) F35 (free 66 "abs" rfl)
  have G_law_linking := ok_linkL (P := P) (w := w) (mg := mg) (base := base) F45 FE G_exact (glo 1 "exact" rfl) G_law_draw b34 F34.kp (glo 41 "_law_draw" rfl) G_law_cleared b36 F36.kp (glo 43 "_law_cleared" rfl) G_law_low b35 F35.kp (glo 42 "_law_low" rfl) (free 71 "range" rfl)
  have G_law_factorial := ok_factL (P := P) (w := w) (mg := mg) (base := base) F43 (free 71 "range" rfl)
  have G_law_rooted := ok_rooted (P := P) (w := w) (mg := mg) (base := base) F42 G_law_low b35 F35.kp (glo 42 "_law_low" rfl)
  have G_law_by := ok_by (P := P) (w := w) (mg := mg) (base := base) F38 G_law_low b35 F35.kp (glo 42 "_law_low" rfl) G_law_cleared b36 F36.kp (glo 43 "_law_cleared" rfl)
  have G_law_two := ok_two (P := P) (w := w) (mg := mg) (base := base) F44 G_law_factorial b43 F43.kp (glo 50 "_law_factorial" rfl) G_law_low b35 F35.kp (glo 42 "_law_low" rfl) G_law_rooted b42 F42.kp (glo 49 "_law_rooted" rfl) G_law_by b38 F38.kp (glo 45 "_law_by" rfl) (free 66 "abs" rfl) (free 75 "min" rfl) (free 71 "range" rfl)
  have G_law_one_tensor := ok_oneT (P := P) (w := w) (mg := mg) (base := base) F46 FE G_exact (glo 1 "exact" rfl) G_law_draw b34 F34.kp (glo 41 "_law_draw" rfl) G_law_two b44 F44.kp (glo 51 "_law_two" rfl) G_law_by b38 F38.kp (glo 45 "_law_by" rfl) (free 71 "range" rfl) (free 66 "abs" rfl) (free 75 "min" rfl) (free 68 "list" rfl)
  have G_law_sum := ok_sum (P := P) (w := w) (mg := mg) (base := base) F37 G_law_low b35 F35.kp (glo 42 "_law_low" rfl) G_law_cleared b36 F36.kp (glo 43 "_law_cleared" rfl) (free 73 "dict" rfl)
  have G_law_common := ok_common (P := P) (w := w) (mg := mg) (base := base) F39
  have G_law_product := ok_product (P := P) (w := w) (mg := mg) (base := base) F40 G_law_common b39 F39.kp (glo 46 "_law_common" rfl) G_law_low b35 F35.kp (glo 42 "_law_low" rfl) G_law_sum b37 F37.kp (glo 44 "_law_sum" rfl)
  have G_law_parts := ok_parts (P := P) (w := w) (mg := mg) (base := base) F41 (free 69 "tuple" rfl) (free 67 "sorted" rfl)
  have G_law_due := ok_due (P := P) (w := w) (mg := mg) (base := base) F47 G_law_sum b37 F37.kp (glo 44 "_law_sum" rfl) G_law_product b40 F40.kp (glo 47 "_law_product" rfl) G_law_two b44 F44.kp (glo 51 "_law_two" rfl) G_law_by b38 F38.kp (glo 45 "_law_by" rfl) G_law_parts b41 F41.kp (glo 48 "_law_parts" rfl) (free 71 "range" rfl) (free 66 "abs" rfl)
  have G_is_size := ok_isSize (P := P) (w := w) (mg := mg) (base := base) F21 G_is_whole b3 F3.kp (glo 10 "is_whole" rfl) gi_HIGHEST_SIZE
  have G_need_linked_sizes := ok_needLinked (P := P) (w := w) (mg := mg) (base := base) F29 G_is_size b21 F21.kp (glo 28 "is_size" rfl) gi_HIGHEST_OF_LINKING
  have G_is_odd := ok_odd (P := P) (w := w) (mg := mg) (base := base) F8
  have G_is_offset_spIsOffset2 := ok_isOffset2 (P := P) (w := w) (mg := mg) (base := base) F22 G_is_whole b3 F3.kp (glo 10 "is_whole" rfl) G_is_odd b8 F8.kp (glo 15 "is_odd" rfl)
  have G_need_linking := ok_needLinking (P := P) (w := w) (mg := mg) (base := base) F30 T G_need_linked_sizes b29 F29.kp (glo 36 "need_linked_sizes" rfl) G_is_offset_spIsOffset2 b22 F22.kp (glo 29 "is_offset" rfl) (free 63 "isinstance" rfl) (free 73 "dict" rfl) (free 69 "tuple" rfl) (free 70 "len" rfl)
  have G_need_sizes_spNeedSizes := ok_needSizes (P := P) (w := w) (mg := mg) (base := base) F23 G_is_size b21 F21.kp (glo 28 "is_size" rfl)
  have G_sizes_of := ok_sizesOf (P := P) (w := w) (mg := mg) (base := base) F20 G_need_sizes_spNeedSizes b23 F23.kp (glo 30 "need_sizes" rfl) gi_HIGHEST_SIZE (free 66 "abs" rfl) (free 75 "min" rfl) (free 71 "range" rfl) (free 68 "list" rfl)
  have G_offsets := ok_offsets (P := P) (w := w) (mg := mg) (base := base) F19 G_need_sizes_spNeedSizes b23 F23.kp (glo 30 "need_sizes" rfl) (free 71 "range" rfl) (free 68 "list" rfl)
  have G_places_of := ok_placesOf (P := P) (w := w) (mg := mg) (base := base) F31 G_offsets b19 F19.kp (glo 26 "offsets" rfl) G_is_offset_spIsOffset2 b22 F22.kp (glo 29 "is_offset" rfl)
  have G_need_exact := ok_need (P := P) (w := w) (mg := mg) (base := base) F14 T (free 63 "isinstance" rfl)
  have G_sum_in_lowest := ok_sumLow (P := P) (w := w) (mg := mg) (base := base) F6 G_shared b4 F4.kp (glo 11 "shared" rfl)
  have G_merged := ok_merged (P := P) (w := w) (mg := mg) (base := base) F15 G_sum_in_lowest b6 F6.kp (glo 13 "sum_in_lowest" rfl) (free 67 "sorted" rfl) (free 68 "list" rfl) (free 69 "tuple" rfl)
  have G_plus := ok_plus (P := P) (w := w) (mg := mg) (base := base) F11 T G_need_exact b14 F14.kp (glo 21 "need_exact" rfl) G_merged b15 F15.kp (glo 22 "merged" rfl) G_init bI
  have G_on_one_bottom := ok_oneB (P := P) (w := w) (mg := mg) (base := base) F16 G_shared b4 F4.kp (glo 11 "shared" rfl)
  have G_products := ok_products (P := P) (w := w) (mg := mg) (base := base) F18 G_shared b4 F4.kp (glo 11 "shared" rfl)
  have G_times := ok_times (P := P) (w := w) (mg := mg) (base := base) F12 T G_need_exact b14 F14.kp (glo 21 "need_exact" rfl) G_on_one_bottom b16 F16.kp (glo 23 "on_one_bottom" rfl) G_products b18 F18.kp (glo 25 "products" rfl) G_lowered b17 F17.kp (glo 24 "lowered" rfl)
  have G_can_join := ok_canJoin (P := P) (w := w) (mg := mg) (base := base) F24 G_is_odd b8 F8.kp (glo 15 "is_odd" rfl)
  have G_factorials := ok_facts (P := P) (w := w) (mg := mg) (base := base) F9 (free 71 "range" rfl)
  have G_terms_of_joined := ok_terms (P := P) (w := w) (mg := mg) (base := base) F26 G_factorials b9 F9.kp (glo 16 "factorials" rfl) G_is_odd b8 F8.kp (glo 15 "is_odd" rfl) (free 75 "min" rfl) (free 71 "range" rfl)
  have G_primes_of_factorials := ok_primesF (P := P) (w := w) (mg := mg) (base := base) F10 (glo 2 "PRIMES" rfl) hT (free 74 "max" rfl) (free 71 "range" rfl) (free 72 "reversed" rfl) (free 76 "sum" rfl)
  have G_root_of_factorials := ok_rootF (P := P) (w := w) (mg := mg) (base := base) F13 T G_primes_of_factorials b10 F10.kp (glo 17 "primes_of_factorials" rfl) G_is_odd b8 F8.kp (glo 15 "is_odd" rfl) G_init bI (free 71 "range" rfl)
  have G_joined_number := ok_joinedN (P := P) (w := w) (mg := mg) (base := base) F25 FE G_exact (glo 1 "exact" rfl) G_can_join b24 F24.kp (glo 31 "can_join" rfl) G_factorials b9 F9.kp (glo 16 "factorials" rfl) G_terms_of_joined b26 F26.kp (glo 33 "terms_of_joined" rfl) G_root_of_factorials b13 F13.kp (glo 20 "root_of_factorials" rfl) G_times b12 F12.kp (glo 19 "times" rfl) (free 74 "max" rfl) (free 76 "sum" rfl)
  have G_tensor_in := ok_tensorIn (P := P) (w := w) (mg := mg) (base := base) F32 FE G_exact (glo 1 "exact" rfl) G_places_of b31 F31.kp (glo 38 "places_of" rfl) G_plus b11 F11.kp (glo 18 "plus" rfl) G_times b12 F12.kp (glo 19 "times" rfl) G_joined_number b25 F25.kp (glo 32 "joined_number" rfl)
  have G_resolved := ok_resolved (P := P) (w := w) (mg := mg) (base := base) F27 T G_need_linking b30 F30.kp (glo 37 "need_linking" rfl) G_sizes_of b20 F20.kp (glo 27 "sizes_of" rfl) G_offsets b19 F19.kp (glo 26 "offsets" rfl) G_tensor_in b32 F32.kp (glo 39 "tensor_in" rfl)
  have G_rank_of := ok_rankOf (P := P) (w := w) (mg := mg) (base := base) F28 F27 G_resolved (glo 34 "resolved" rfl) (free 70 "len" rfl) (free 79 "set" rfl)
  exact ok_law F48 T ⟨G_law_pen, b33, F33.kp, (glo 40 "_law_pen" rfl), G_law_draw, b34, F34.kp, (glo 41 "_law_draw" rfl), G_law_linking, b45, F45.kp, (glo 52 "_law_linking" rfl), G_law_one_tensor, b46, F46.kp, (glo 53 "_law_one_tensor" rfl), G_law_due, b47, F47.kp, (glo 54 "_law_due" rfl), F27, G_resolved, (glo 34 "resolved" rfl), F28, G_rank_of, (glo 35 "rank_of" rfl), FE, G_exact, (glo 1 "exact" rfl), (free 71 "range" rfl), (free 70 "len" rfl), (free 64 "int" rfl), (free 73 "dict" rfl)⟩
end TC
open PySem PySem.W PySem.Calls PyProof.Rows
set_option maxHeartbeats 0 in
theorem PySem.Challenge.cw_turncouple_k60_linkings_resolved_holds : PySem.Challenge.rw_turncouple_k60_linkings_resolved.Holds := by
  refine lookAt fun said => ?_
  refine HandSHeadRun.head_any (r := OpenLaw.row PySem.Challenge.rw_turncouple_k60_linkings_resolved) (q := view (OpenLaw.row PySem.Challenge.rw_turncouple_k60_linkings_resolved).prog [67]) (H := TC.hk) (ob := TC.ob) (M := 30000) (loose := TC.loose) (d := HandSHeadRun.topDef (OpenLaw.row PySem.Challenge.rw_turncouple_k60_linkings_resolved).prog 67) (kwd := []) TC.ob_eq
    (by kernel_rfl) (fun s => by kernel_rfl) TC.run (by kernel_rfl) (by kernel_rfl) (by kernel_rfl) (by rfl) (by first | assumption | decide +kernel) (by decide +kernel) ⟨rfl, rfl, rfl, rfl, rfl, by decide +kernel⟩ ?hw ?hc
  case hw => w_witness2
  case hc =>
    refine L2.walk_ofE (l := PySem.Challenge.rw_turncouple_k60_linkings_resolved) (n := 63) (k := 9) (x := "_law_script") (CX := L2.CX0) rfl (by decide) (by kernel_rfl) ⟨rfl, by decide, by decide⟩ ?F (fun _ _ _ _ z => z)
    intro w mg fa h Y G hmg0
    obtain ⟨K, KX, sx⟩ := Y
    have hmg : mg ("law" : PySem.Str) = some (.ref fa) := by
      have e : (HandSHeadRun.topDef (OpenLaw.row PySem.Challenge.rw_turncouple_k60_linkings_resolved).prog 67).name = ("law" : PySem.Str) := by kernel_rfl
      rw [← e]
      exact hmg0
    obtain ⟨fd, hb, hF⟩ := TC.facts (P := (PySem.Challenge.rw_turncouple_k60_linkings_resolved).prog) (w := w) KX G hmg sx
    exact ⟨K, fd, TC.spLaw K, KX, hb, fun H a ns hl _ hS => ⟨a, ns, rfl, hS, hl, fun _ => rfl⟩, hF⟩
