import PyProof.Rows.All
import Wide.All
import OpenK.AllK
import Wide.FinOn
import KE.KIsAll
import KE.KTryMore
import HandS.ForMost
import HandS.ForExc
import HandS.Defaults
import HandS.ExcIs
import HandS.Lambda
import HandS.Codes
import HandS.Conv
import HandS.More
import HandS.Walk
import HandS.EndTab
import HandS.HeadWalk
import PyProof.ReprRoads
import PyProof.ListRange
import HandS.HeadHook1
import HandS.HeadHook2
import HandS.HeadHook3
import HandS.HeadHook4
import KE.KStateDown
import Lean
import HandS.IsInst
import HandS.Head0
import HandS.Head1
import HandS.Head2
import HandS.HeadEnd
import KE.GoesMore
import KE.GoesEnum
import KE.KFmtOwn
import PyProof.InstEq
import HandS.OwnEq
import HandS.Wide
import HandS.WideMore
import HandS.DictComp
import HandS.TupAny
import HandS.SortInts
import HandS.List
import HandS.Base
import HandS.Star
import HandS.RevRange
import HandS.Style
import PyProof.ReprLen
import PyProof.Rows.SumAny
import HandS.FStr
import OpenK.KOps
import HandS.RaiseMore
import HandS.Dict
import KE.KeyNested
import HandS.Iter
import KE.KDictWalk
import PyProof.DictItems
import PyProof.DictFindH
import PyProof.MaxThree
import PySem.Challenge.RW_turncouple_k12_whole_ladders_and_sums
open PySem PySem.W PySem.Calls PyProof.Rows in
set_option Elab.async false in
set_option maxRecDepth 100000 in
set_option maxHeartbeats 0 in
theorem lookAt (h : PySem.Challenge.rw_turncouple_k12_whole_ladders_and_sums.row.wellSaid = true → PySem.Challenge.rw_turncouple_k12_whole_ladders_and_sums.row.Holds) : PySem.Challenge.rw_turncouple_k12_whole_ladders_and_sums.Holds := by
  w_on; o_law
  exact h (by assumption)
set_option Elab.async false
set_option linter.all false
set_option maxRecDepth 100000
set_option maxHeartbeats 4000000
/-! Exceptions that are caught, kept in a name and asked of later. -/
namespace TCX
open PySem PySem.Spec PyProof.Rows L2
/-! ### a clause that names five classes -/
section
open PySem.W
variable {M : Model} {K : Frag}
theorem exm_tup5 {c1 c2 c3 c4 c5 cls : Value} {tp e : Addr} {b : Bool} {h : Heap} (X : K.In h) (LT : Looks M h (typeOf (.ref e)) cls) (hp : h.get? tp = some { cls := .type "tuple", data := .seq [c1, c2, c3, c4, c5].toArray }) (hx : exmAny K cls [c1, c2, c3, c4, c5] = some b) :
    Looks M h (excMatches (.ref e) (.ref tp)) b := by
  intro A Q E s k₀ q
  obtain ⟨hh, g, d, tk, os⟩ := s
  have k : ∀ b o, h.get? b = some o → hh.get? b = some o := k₀
  have T0 : Looks M h (isInstance (.ref tp) (.type "tuple")) true := ((Looks.ld hp).andThen .now).andThen (Looks.of_pure isSubtype_tuple_tuple)
  have T1 := T0.keeps k
  have TY := LT.keeps k
  have hp' := k _ _ hp
  obtain ⟨b1, d1, x1, y1, z1⟩ := exmAny_cons hx
  obtain ⟨b2, d2, x2, y2, z2⟩ := exmAny_cons y1
  obtain ⟨b3, d3, x3, y3, z3⟩ := exmAny_cons y2
  obtain ⟨b4, d4, x4, y4, z4⟩ := exmAny_cons y3
  obtain ⟨b5, d5, x5, y5, z5⟩ := exmAny_cons y4
  have u1 := (exm_cls (M := M) X x1).1.keeps k
  have v1 := (exm_cls (M := M) X x1).2.keeps k
  have u2 := (exm_cls (M := M) X x2).1.keeps k
  have v2 := (exm_cls (M := M) X x2).2.keeps k
  have u3 := (exm_cls (M := M) X x3).1.keeps k
  have v3 := (exm_cls (M := M) X x3).2.keeps k
  have u4 := (exm_cls (M := M) X x4).1.keeps k
  have v4 := (exm_cls (M := M) X x4).2.keeps k
  have u5 := (exm_cls (M := M) X x5).1.keeps k
  have v5 := (exm_cls (M := M) X x5).2.keeps k
  have w5 : some false = some d5 := y5
  cases w5
  subst z1 z2 z3 z4 z5
  unfold excMatches
  refine wpAny_bind (T1.at ?_)
  dsimp only
  rw [if_pos rfl]
  first
    | refine wpAny_bind (wpAny_seqItems hp' rfl ?_)
    | refine wpAny_bind (wpAny_bind (wpAny_seqItems hp' rfl (wpAny_pure ?_)))
  dsimp only [Option.getD_some, Option.getD]
  cases b1 <;> cases b2 <;> cases b3 <;> cases b4 <;> cases b5 <;> ((repeat (first | simp only [List.forIn_cons, List.forIn_nil, Bool.not_true, Bool.false_eq_true, if_false, if_true] | lk)); exact q)
end
/-- the test t of a clause, asked while an exception of the class cls is handled: it says b -/
def Tst (X : Cx) (t : Expr) (cls : Value) (b : Bool) : Prop :=
  ∀ (a : Addr) (oe : Obj) (pn : List (Addr × Obj)) (σ : L2.St) (H : Hp) (s : Shared) (Q : Bool → Shared → Prop) (E : Value → Shared → Prop),
    Inv (X.suite a ((a, oe) :: pn)) [] σ H s → oe.cls = cls → (∀ h', (∀ q o, s.heap.get? q = some o → h'.get? q = some o) → Q b { s with heap := h' }) →
    wpAny (model X.prog X.w) (X.A.mark (some (.ref a))) (eval t X.env) (fun c s₁ => wpAny (model X.prog X.w) (X.A.mark (some (.ref a))) (excMatches (.ref a) c) Q E s₁) E s
section
variable {X : Cx}
theorem suite_ty {a : Addr} {oe : Obj} {pn : List (Addr × Obj)} {σ : L2.St} {H : Hp} {s : Shared} (I : Inv (X.suite a ((a, oe) :: pn)) [] σ H s) : PySem.W.Looks (model X.prog X.w) s.heap (typeOf (.ref a)) oe.cls := by
  obtain ⟨hget, _⟩ := I.pin (a, oe) (List.mem_append.mpr (.inl List.mem_cons_self))
  exact fun A Q E s k q => wpAny_typeOf_ref (k _ _ hget) q
theorem ld_names {a : Addr} {oe : Obj} {pn : List (Addr × Obj)} {σ : L2.St} {H : Hp} {s : Shared} {x : Str} {c : Value} {np : Pos} {Q : Value → Shared → Prop} {E : Value → Shared → Prop} (hc : Names X x c) (I : Inv (X.suite a ((a, oe) :: pn)) [] σ H s) (q : Q c s) :
    wpAny (model X.prog X.w) (X.A.mark (some (.ref a))) (eval (.Name x np) X.env) Q E s := by
  obtain ⟨hg, hdbg, hm | ⟨hm, hv, hnn⟩⟩ := hc
  · exact ld_glob (X := X.suite a ((a, oe) :: pn)) I hg hm q hdbg
  · exact ld_blt (X := X.suite a ((a, oe) :: pn)) I hg hm hv q hnn hdbg
theorem tst_name {x : Str} {c cls : Value} {np : Pos} {b : Bool} (hc : Names X x c) (he : PySem.W.exmOne X.K cls c = some b) : Tst X (.Name x np) cls b := by
  intro a oe pn σ H s Q E I e q
  subst e
  exact ld_names hc I ((PySem.W.exm_one I.kIn (suite_ty I) he).here (q s.heap fun _ _ z => z))
theorem tst_tup4 {x1 x2 x3 x4 : Str} {c1 c2 c3 c4 cls : Value} {p1 p2 p3 p4 tpos : Pos} {kk : Nat} {b : Bool} (n1 : Names X x1 c1) (n2 : Names X x2 c2) (n3 : Names X x3 c3) (n4 : Names X x4 c4) (he : PySem.W.exmAny X.K cls [c1, c2, c3, c4] = some b) :
    Tst X (.Tuple [.Name x1 p1, .Name x2 p2, .Name x3 p3, .Name x4 p4] kk tpos) cls b := by
  intro a oe pn σ H s Q E I e q
  subst e
  refine wpAny_Tuple ?_
  refine wpAny_items_cons (ld_names n1 I ?_)
  refine wpAny_items_cons (ld_names n2 I ?_)
  refine wpAny_items_cons (ld_names n3 I ?_)
  refine wpAny_items_cons (ld_names n4 I ?_)
  refine wpAny_items_nil ⟨by size_fits, ?_⟩
  have kp : ∀ q o, s.heap.get? q = some o → (s.heap.push { cls := .type "tuple", data := .seq [c1, c2, c3, c4].toArray }).get? q = some o := fun _ _ z => Heap.get?_push_of_some _ z
  exact (PySem.W.exm_tup4 (I.kIn.keeps kp) ((suite_ty I).keeps kp) (Heap.get?_push_size s.heap rfl) he).here (q _ kp)
theorem tst_tup5 {x1 x2 x3 x4 x5 : Str} {c1 c2 c3 c4 c5 cls : Value} {p1 p2 p3 p4 p5 tpos : Pos} {kk : Nat} {b : Bool} (n1 : Names X x1 c1) (n2 : Names X x2 c2) (n3 : Names X x3 c3) (n4 : Names X x4 c4) (n5 : Names X x5 c5) (he : PySem.W.exmAny X.K cls [c1, c2, c3, c4, c5] = some b) :
    Tst X (.Tuple [.Name x1 p1, .Name x2 p2, .Name x3 p3, .Name x4 p4, .Name x5 p5] kk tpos) cls b := by
  intro a oe pn σ H s Q E I e q
  subst e
  refine wpAny_Tuple ?_
  refine wpAny_items_cons (ld_names n1 I ?_)
  refine wpAny_items_cons (ld_names n2 I ?_)
  refine wpAny_items_cons (ld_names n3 I ?_)
  refine wpAny_items_cons (ld_names n4 I ?_)
  refine wpAny_items_cons (ld_names n5 I ?_)
  refine wpAny_items_nil ⟨by size_fits, ?_⟩
  have kp : ∀ q o, s.heap.get? q = some o → (s.heap.push { cls := .type "tuple", data := .seq [c1, c2, c3, c4, c5].toArray }).get? q = some o := fun _ _ z => Heap.get?_push_of_some _ z
  exact (exm_tup5 (I.kIn.keeps kp) ((suite_ty I).keeps kp) (Heap.get?_push_size s.heap rfl) he).here (q _ kp)
end
/-! ### a caught exception that is tracked from now on -/
/-- at a stands an exception of the class cls, its own dict d -/
def ExV (cls : Value) (d : Option Addr) (a : Addr) : HO := .ext fun h => ∃ (oe : Obj) (vs : Array Value), h.get? a = some oe ∧ Zc cls d oe ∧ oe.data = .fields vs
theorem exV_ok {P : Program} {w : World} {H : Hp} {h : Heap} {a : Addr} {cls : Value} {d : Option Addr} {oe : Obj} {vs : Array Value} (e : h.get? a = some oe) (z : Zc cls d oe) (hd : oe.data = .fields vs) : ObjOk P w H h a (ExV cls d a) :=
  ⟨⟨oe, vs, e, z, hd⟩, ⟨oe, e⟩, fun _ _ ⟨o, v, q, r⟩ k => ⟨o, v, k o q, r⟩⟩
theorem flyZ_keeps {B h h' : Heap} {l : List Env} {e : Addr} {Z : Obj → Prop} (R : HandSPX.FlyingZ B l e Z h) (k : ∀ b o, h.get? b = some o → h'.get? b = some o) : HandSPX.FlyingZ B l e Z h' := by
  obtain ⟨f1, f2, f3, oe, ws, T, oT, ts, he, hz, hd, h1, hn, hne, hT, hdT, h3⟩ := R
  exact ⟨fun b o q => k b o (f1 b o q), f2, f3.of_keeps fun b o q _ => ⟨o, k b o q, rfl⟩, oe, ws, T, oT, ts, k _ _ he, hz, hd, h1, hn, hne, k _ _ hT, hdT, h3⟩
section
variable {X : Cx} {pins : List (Addr × Obj)} {σ : L2.St} {H : Hp} {s : Shared}
theorem Inv_track {a : Addr} {cls : Value} {d : Option Addr} {oe : Obj} {vs : Array Value} (I : Inv X pins σ H s) (h0 : X.s_0.heap.get? a = none) (na : H a = none) (he : s.heap.get? a = some oe) (hz : Zc cls d oe) (hd : oe.data = .fields vs) (nL : a ≠ X.env.locals) (nP : ∀ p ∈ X.pn ++ pins, p.1 ≠ a) :
    Inv X pins σ (upd H a (ExV cls d a)) s := by
  have nS : ∀ b u, H b = some u → b ≠ a := fun b u e => ne_of_none e na
  refine ⟨I.ok, I.os, I.bare, ⟨I.base.keep, I.base.slot, fun b o e n hx => ?_, I.base.there, fun b xs e => ?_, fun b o u e => ?_, fun b ps e => ?_⟩, I.loc, I.cell, ?_, fun x c e => ?_, fun p hp => ?_, fun b u e => ?_, I.len⟩
  · rw [upd_ne (fun z => by rw [z, h0] at e; cases e)]
    exact I.base.free b o e n hx
  · have q := I.base.tups b xs e
    rw [upd_ne (nS _ _ q)]
    exact q
  · have q := I.base.frzs b o u e
    rw [upd_ne (nS _ _ q)]
    exact q
  · obtain ⟨m, q⟩ := I.base.tbls b ps e
    exact ⟨m, by rw [upd_ne (nS _ _ q)]; exact q⟩
  · rw [upd_ne (Ne.symm nL)]
    exact I.free
  · obtain ⟨v, o, ho, hdc⟩ := I.cell x c e
    rw [upd_ne (fun z => by
      rw [z, he] at ho
      cases ho
      rw [hd] at hdc
      cases hdc)]
    exact I.freeC x c e
  · obtain ⟨e, n, ne, nf, dd⟩ := I.pin p hp
    exact ⟨e, by rw [upd_ne (nP p hp)]; exact n, ne, nf, dd⟩
  · by_cases hb : b = a
    · subst hb
      rw [upd_same] at e
      cases e
      exact exV_ok he hz hd
    · rw [upd_ne hb] at e
      exact (I.hok b u e).stay (fun c v _ q => q) (fun c q => by rw [upd_ne (nS _ _ q)]; exact q) fun c xs q => by rw [upd_ne (nS _ _ q)]; exact q
theorem Inv_suite0 {a : Addr} (I : Inv X pins σ H s) : Inv (X.suite a (X.pn ++ pins)) [] σ H s :=
  ⟨I.ok.suite _ _, I.os, I.bare, I.base, I.loc, I.cell, I.free, I.freeC, fun p hp => I.pin p (by rw [List.append_nil] at hp; exact hp), I.hok, I.len⟩
theorem Inv_unsuite0 {a : Addr} {pn' : List (Addr × Obj)} (I : Inv (X.suite a (X.pn ++ pins)) pn' σ H s) (ok : X.Ok) : Inv X pins σ H s :=
  ⟨ok, I.os, I.bare, I.base, I.loc, I.cell, I.free, I.freeC, fun p hp => I.pin p (List.mem_append_left _ hp), I.hok, I.len⟩
end
/-- the ends of a suite whose name's slot i is emptied behind it -/
def endsAs (i : Nat) (D : Ends) : Ends := { nx := fun σ' H' => D.nx (σ'.set i none) H', rt := D.rt, bk := fun σ' H' => D.bk (σ'.set i none) H', ct := fun σ' H' => D.ct (σ'.set i none) H' }
/-- what the clauses wish: each has its classes, its name's slot, its suite -/
def wKeep (K : PySem.W.Frag) (D : Ends) : List (List Value × Nat × (Addr → Value → Option Addr → TS)) → WX
  | [] => fun _ _ _ _ => False
  | (cs, i, ts) :: r => fun cls d σ H => ∃ b, PySem.W.exmAny K cls cs = some b ∧ (b = true → ∀ a, H a = none → ts a cls d (endsAs i D) (σ.set i (some (.ref a))) (upd H a (ExV cls d a))) ∧ (b = false → wKeep K D r cls d σ H)
inductive HdK (X : Cx) : List ExceptHandler → List (List Value × Nat × (Addr → Value → Option Addr → TS)) → Prop
  | nil : HdK X [] []
  | cons {t : Expr} {n : Str} {i : Nat} {cs : List Value} {ts : Addr → Value → Option Addr → TS} {b₀ : Stmt} {suite : List Stmt} {pos' : Pos} {hds : List ExceptHandler} {l : List (List Value × Nat × (Addr → Value → Option Addr → TS))}
      (ht : ∀ cls b, PySem.W.exmAny X.K cls cs = some b → Tst X t cls b) (hi : X.N[i]? = some n) (hln : X.env.kindOf n = some .local)
      (hsu : ∀ (a : Addr) (cls : Value) (d : Option Addr) (pn : List (Addr × Obj)), PSs (X.suite a pn) (b₀ :: suite) (ts a cls d)) (r : HdK X hds l) :
      HdK X (.ExceptHandler (some t) (some n) (b₀ :: suite) pos' :: hds) ((cs, i, ts) :: l)
section
variable {X : Cx} {body : List Stmt} {h₀ : ExceptHandler} {hds : List ExceptHandler} {l : List (List Value × Nat × (Addr → Value → Option Addr → TS))} {pos : Pos} {tb : WX → TS}
theorem ps_try_keep (hs : X.stack = X.env :: X.outer) (hf : X.env.frame = some X.env.locals) (hex : X.ex = []) (hN : X.N.Nodup)
    (hb : ∀ (W : WX) (pn : List (Addr × Obj)) (xe : Value → Shared → Prop), Takes (X.tr pn xe) W → PassesOwn (model X.prog X.w) X.A X.env xe → PSs (X.tr pn xe) body (tb W))
    (hh : HdK X (h₀ :: hds) l) : PS X (.Try body (h₀ :: hds) [] [] pos) (fun D σ H => tb (fun cls d σ' H' => σ'.length = X.N.length → wKeep X.K D l cls d σ' H') D σ H) := by
  refine ⟨fun pins s σ H D I h => ?_⟩
  have ok := I.ok
  have hfr : X.A.frames = some (X.env :: X.outer) := by rw [ok.frames, hs]
  refine wpAny_Try_except ?_
  refine wpAny_mono ((hb (fun cls d σ' H' => σ'.length = X.N.length → wKeep X.K D l cls d σ' H') (X.pn ++ pins) (fun e s₁ => wpAny (model X.prog X.w) X.A (noteFrame e X.env) (fun _ s₂ => wpAny (model X.prog X.w) X.A (setFlight e none) (fun _ s₃ =>
    wpAny (model X.prog X.w) X.A (handleBy e X.env (h₀ :: hds)) (SP X pins D) X.xe s₃) X.xe s₂) X.xe s₁) (fun u s' xx => ?_) PassesOwn.looking).run [] s σ H D (I.toTry _) h) (fun f s1 hsp => ?_) (fun e s1 he => he)
  · obtain ⟨a, B, sI, pins', σ', H', cls, d, rfl, J', nb, up, sky, na, os, ag, w⟩ := xx
    have J : Inv X pins σ' H' sI := J'.ofTry ok
    have sky' : Sky B (X.env :: X.outer) a (Zc cls d) X.env.locals s'.heap := by rw [← hs]; exact sky
    show wpAny (model X.prog X.w) X.A (noteFrame (.ref a) X.env) _ _ _
    refine Sky.land Zc.steady hfr hf sky' fun h3 fl3 up3 => ?_
    have notFr : ∀ {h : Heap} {o : Obj} {vs : Array Value}, h.FunFrames B (X.env :: X.outer) → h.get? a = some o → o.data = .fields vs → a ∉ frs (X.env :: X.outer) := fun {h o vs} ff e dd hm => by
      obtain ⟨_, o', e', hnf⟩ := ff.mem hm
      rw [e] at e'; cases e'
      exact hnf _ dd
    have nfr : a ∉ frs (X.env :: X.outer) := by
      obtain ⟨oe3, vs3, he3, hz3, hd3⟩ := fl3.there
      exact notFr fl3.2.2.1 he3 hd3
    have nL : a ≠ X.env.locals := fun z => nfr (List.mem_filterMap.mpr ⟨X.env, List.mem_cons_self, by rw [hf, z]⟩)
    have nF : a ∉ X.fs := fun hm => by
      obtain ⟨e, he, q⟩ := List.mem_filterMap.mp hm
      exact nfr (List.mem_filterMap.mpr ⟨e, List.mem_cons_of_mem _ he, q⟩)
    have nI : sI.heap.get? a = none := by
      cases e : sI.heap.get? a with
      | none => rfl
      | some o =>
        have z := nb a o e (by rw [hs]; exact nfr)
        rw [fl3.2.1] at z
        cases z
    have n0 : X.s_0.heap.get? a = none := by
      cases e : X.s_0.heap.get? a with
      | none => rfl
      | some o =>
        obtain ⟨o', z⟩ := J.base.there a o e (by rw [hex]; exact fun z => nomatch z)
        rw [nI] at z
        cases z
    have nP : ∀ p ∈ X.pn ++ pins, p.1 ≠ a := fun p hp z => by
      obtain ⟨e, _⟩ := J.pin p hp
      rw [z, nI] at e
      cases e
    have go : ∀ {hds' : List ExceptHandler} {l' : List (List Value × Nat × (Addr → Value → Option Addr → TS))}, HdK X hds' l' → wKeep X.K D l' cls d σ' H' → ∀ h3 : Heap, HandSPX.FlyingZ B (X.env :: X.outer) a (Zc cls d) h3 → sI.heap.UpToSlots h3 →
        wpAny (model X.prog X.w) X.A (handleBy (.ref a) X.env hds') (SP X pins D) X.xe { s' with heap := h3 } := by
      intro hds' l' hk
      induction hk with
      | nil =>
        intro w
        exact w.elim
      | @cons t n i cs ts b₀ suite pos' hds2 l2 ht hi hln hsu r ih =>
        intro w h3 fl3 up3
        obtain ⟨b, hb1, hyes, hno⟩ := w
        have J3 : Inv X pins σ' H' { s' with heap := h3 } := J.landed nb fl3.1 up3 os ag
        obtain ⟨oe3, vs3, he3, hz3, hd3⟩ := fl3.there
        have S3 := J3.suite he3 hd3 na nL nF
        refine wpAny_handleBy_cons (codeAny_handlers_test (ht cls b hb1 a oe3 _ _ _ _ _ _ S3 hz3.1 fun h4 kp => ?_)) (by intro q; cases q)
        have fl4 := flyZ_keeps fl3 kp
        have up4 : sI.heap.UpToSlots h4 := up3.trans (Heap.UpToSlots.of_keeps kp)
        cases b with
        | true =>
          refine codeAny_handlers_suite_as ?_
          refine HandSPX.lands_againZ (s := { s' with heap := h4 }) fl4 fun h5 fl5 up5 => ?_
          have J5 : Inv X pins σ' H' { s' with heap := h5 } := J.landed nb fl5.1 (up4.trans up5) os ag
          obtain ⟨oe5, vs5, he5, hz5, hd5⟩ := fl5.there
          have K5 : Inv X pins σ' (upd H' a (ExV cls d a)) { s' with heap := h5 } := Inv_track J5 n0 na he5 hz5 hd5 nL nP
          have S5 : Inv (X.suite a (X.pn ++ pins)) [] σ' (upd H' a (ExV cls d a)) { s' with heap := h5 } := Inv_suite0 K5
          refine store_ok (X := X.suite a (X.pn ++ pins)) (v := .ref a) S5 hN hi (.inl hln) rfl (fun s6 S6 => ?_) (.inr hln)
          refine wpAny_mono ((hsu a cls d (X.pn ++ pins)).run [] s6 _ _ _ S6 (hyes rfl a na)) (fun f s7 hsp => ?_) (fun _ _ z => False.elim z)
          have end_ : ∀ {σ6 : L2.St} {H6 : Hp} {Q : Shared → Prop}, Inv (X.suite a (X.pn ++ pins)) [] σ6 H6 s7 → (∀ s8, Inv X pins (σ6.set i none) H6 s8 → Q s8) →
              wpAny (model X.prog X.w) X.A (do bindName X.env n .none; unbindBehindTheSuite X.env n pos') (fun _ s8 => Q s8) X.xe s7 := fun {σ6 H6 Q} S6 hq => gone_ok (Inv_unsuite0 S6 ok) hN hi hln hq
          cases f with
          | next =>
            obtain ⟨σ6, H6, S6, q6⟩ := hsp
            exact end_ S6 fun s7 J7 => ⟨_, _, J7, q6⟩
          | brk =>
            obtain ⟨σ6, H6, S6, q6⟩ := hsp
            exact end_ S6 fun s7 J7 => ⟨_, _, J7, q6⟩
          | cont =>
            obtain ⟨σ6, H6, S6, q6⟩ := hsp
            exact end_ S6 fun s7 J7 => ⟨_, _, J7, q6⟩
          | ret u =>
            obtain ⟨v6, σ6, H6, S6, r6, q6⟩ := hsp
            exact end_ S6 fun s7 J7 => ⟨_, _, _, J7, r6, q6⟩
        | false =>
          show wpAny _ X.A (handleBy (.ref a) X.env hds2) _ _ _
          exact ih (hno rfl) h4 fl4 up4
    exact go hh (w J.len) h3 fl3 (up.trans up3)
  · cases f with
    | next =>
      obtain ⟨σ', H', J', q⟩ := hsp
      exact wpAny_execs_nil ⟨σ', H', J'.ofTry ok, q⟩
    | brk =>
      obtain ⟨σ', H', J', q⟩ := hsp
      exact ⟨σ', H', J'.ofTry ok, q⟩
    | cont =>
      obtain ⟨σ', H', J', q⟩ := hsp
      exact ⟨σ', H', J'.ofTry ok, q⟩
    | ret u =>
      obtain ⟨v, σ', H', J', r, q⟩ := hsp
      exact ⟨v, σ', H', J'.ofTry ok, r, q⟩
end
/-! ### isinstance of it -/
section
variable {X : Cx}
/-- isinstance(e, c), e a kept exception of an own class without fields -/
def rIsV (K : PySem.W.Frag) : List V → Hp → VK → Prop := fun xs H Q => ∃ (a D : Addr) (c : V) (cv : Value) (b : Bool), xs = [.ref a, c] ∧ H a = some (ExV (.ref D) none a) ∧ ExcC K D ∧ (∀ u, RelV c u → u = cv) ∧ PySem.W.kitOne K (.ref D) cv = some b ∧ Q (.bl b) H
theorem inst_of {pins : List (Addr × Obj)} {σ : L2.St} {H : Hp} {s : Shared} {a D : Addr} (I : Inv X pins σ H s) (h : H a = some (ExV (.ref D) none a)) : ∃ oe, PySem.W.InstAt s.heap a oe D none := by
  obtain ⟨⟨oe, vs, hget, hz, hv⟩, _, _⟩ := I.hok a _ h
  refine ⟨oe, ?_⟩
  obtain ⟨oc, od, oda, osl⟩ := oe
  obtain ⟨h1, h2⟩ := hz
  dsimp only at h1 h2 hv
  subst h1 h2 hv
  exact ⟨hget, rfl, rfl, trivial⟩
theorem call_isV : CallR X (.builtin "isinstance") (rIsV X.K) := by
  intro pins s σ H xs us Q I r h
  obtain ⟨a, D, c, cv, b, rfl, hH, C, hcv, e, q⟩ := h
  cases r with
  | cons rx rr =>
    cases rr with
    | cons rt rr =>
      cases rr
      cases rx
      have ec := hcv _ rt
      subst ec
      obtain ⟨oe, J⟩ := inst_of I hH
      exact PySem.W.kia_one (PySem.W.handS_kitx_exc C.hg C.hk C.hs C.hd C.ha C.hn C.ht C.hm) I.kIn J e (fun z => nomatch z) fun tk => ⟨.bl b, H, I.kept (t' := tk) fun _ _ z => z, rfl, q⟩
/-- xs.count(y), flat items -/
def rCount (K : PySem.W.Frag) : V → List V → Hp → VK → Prop := fun x xs H Q => ∃ (a : Addr) (ys : List V) (y : V), x = V.ref a ∧ xs = [y] ∧ SqL K H a ys ∧ flatV y = true ∧ ys.all flatV = true ∧ Q (.int ((ys.countP fun z => eqV z y : Nat) : Int)) H
theorem count_eqU {y : V} : ∀ {xs : List V} {us : List Value}, Vals xs us → xs.all flatV = true → us.countP (eqU y) = xs.countP fun z => eqV z y
  | _, _, .nil, _ => rfl
  | x :: xs, u :: us, .cons r t, f => by
    rw [List.all_cons, Bool.and_eq_true] at f
    rw [List.countP_cons, List.countP_cons, eqU_of r f.1, count_eqU t f.2]
theorem mt_count : MtR X "list.count" (rCount X.K) := by
  intro pins s σ H x xs v us Q I rx rxs h
  obtain ⟨a, ys, y, rfl, rfl, hs, fy, fys, q⟩ := h
  cases rx
  cases rxs with
  | cons ry rt =>
    rename_i uy ut
    cases rt
    obtain ⟨its, rv, ⟨⟨cls, dd, data, sl⟩, n, ho, hc, hdn, hd⟩, hlen⟩ := I.list hs
    simp only at hc hd
    subst hc hd
    refine call_meets PySem.F.slot_list_count ⟨_, ho, rfl⟩ PySem.F.entry_list_count (PySem.F.args_list_count_2 _ _)
      (SeqAt.list_countAt a its.toArray n dd sl uy (eqU y)) ⟨ho, fun u' hu' => mem_eqAt ry fy rv fys u' (by simpa using hu'), ?_⟩
    have ec : its.toArray.toList.countP (eqU y) = ys.countP fun z => eqV z y := count_eqU rv fys
    refine ⟨.int ((ys.countP fun z => eqV z y : Nat) : Int), H, I.tok _, ⟨s.toks, ?_⟩, q⟩
    rw [ec]
end
end TCX
/-! Defs that ask repr of lists and tuples: the guards of the calls around are told. -/
namespace TCX
open PySem PySem.Spec PyProof.Rows L2
/-- FnOk where no repr is under way -/
structure FnG (P : Program) (w : World) (K : PySem.W.Frag) (mg : Str → Option Value) (base : Heap) (CX : CXT) (k : Nat) (f : Addr) (fd : FuncData) (ps : List Str) (sp : Sp) : Prop where
  glen : ∀ vs H Q E, sp vs H Q E → vs.length = ps.length
  grun : ∀ (A : Around) (outer : List Env) (s : Shared) (H : Hp) (args : Args) (us : List Value) (vs : List V) (Q : VK) (E : XK), A.guards = some [] → Room k A → Env0 P w K mg base A outer s H → BindsTo s fd args (ps.zip us) → Vals vs us → sp vs H Q E →
    codeAny (model P w) A (.call (.ref f) args) (CR CX outer P w H s Q E) s
section
variable {P : Program} {w : World} {K : PySem.W.Frag} {mg : Str → Option Value} {base : Heap} {x qual : Str} {params : Arguments} {body : List Stmt} {scope : Scope} {dvs : List V} {kws : List (Str × V)} {f : Addr} {fd : FuncData} {CX : CXT} {N ps : List Str} {k : Nat} {sp : Sp}
theorem okG (F : FunD K x qual params body scope dvs kws f fd) (S : FnScope N ps scope) (len : ∀ vs H Q E, sp vs H Q E → vs.length = ps.length)
    (hbody : ∀ (cdv : Value) (A : Around) (outer : List Env) (s : Shared) (H : Hp) (vs : List V) (Q : VK) (E : XK), A.guards = some [] → Room k (A.deeper (envOfC qual scope s.heap.objs.size f cdv)) → sp vs H Q E →
      ∃ t, PSs (cxOf CX P w K mg base N qual scope f cdv A outer s H E) body t ∧ t { nx := fun _ H' => Q .non H', rt := Q } (L2.start N vs) H) : FnG P w K mg base CX (k + 1) f fd ps sp := by
  obtain ⟨oc, od, dV, kV, doc, pm, an, cdv, ct, osl, rfl, lk, hcd, _, _⟩ := F.ex
  exact ⟨len, fun A outer s H args us vs Q E hg hr e0 hb r hsp => LamX.run_ofS lk hcd S hr e0 hb r (len _ _ _ _ hsp) fun hr' => hbody cdv A outer s H vs Q E hg hr' hsp⟩
end
section
variable {X : Cx} {CX : CXT} {k : Nat} {f : Addr} {fd : FuncData} {ps : List Str} {sp : Sp} {E : XK} {x : Str} {p pos : Pos} {e : Expr} {es : List Expr} {t : TA} {dvs : List V} {ds : List Value}
/-- f(e, ..) of such a def -/
theorem pe_callG (F : FnG X.prog X.w X.K X.mg X.base CX k f fd ps sp) (hG : X.A.guards = some []) (hr : Room k X.A) (hg : Gl X x) (hm : X.mg x = some (.ref f)) (hk : PySem.W.keepIn X.K (.ref f) = true) (hb : L2.Binds X.K fd ps ds) (hd : Vals dvs ds) (hx : Passes CX X E)
    (ha : PA X (e :: es) t) (hdb : (x == ("__debug__" : Str)) = false := by decide) (he : starEach (e :: es) X.env = (false, eval e X.env) :: starEach es X.env := by rfl) (hpl : (backTo pos (starEach es X.env)).any (·.1) = false := by rfl) :
    PE X (.Call (.Name x p) (e :: es) [] pos) (tCall sp dvs E t) := by
  refine ⟨fun pins s σ H Q I h => wpAny_Call_Name_kw (ld_glob I hg hm ?_ hdb)⟩
  refine PySem.W.callWith_K (h₀ := X.base) I.ok.mod.kin hk (thn (ha.run pos pins s σ H _ I h) fun us s1 z => ?_) he hpl
  obtain ⟨vs, H1, I1, r, q⟩ := z
  refine ⟨I1.kIn, wpAny_call (codeAny_mono (F.grun X.A X.stack s1 H1 ⟨us, []⟩ (us ++ ds) (vs ++ dvs) Q E hG hr I1.env0 (hb s1 us I1.kIn ?_) (r.append hd) q) fun y s' hq => ?_)⟩
  · rw [← (r.append hd).length]
    exact F.glen _ _ _ _ q
  · match y, hq with
    | .error u, hq => exact hx pins σ H1 s1 u s' I1 hq
    | .ok (.ret u), hq => exact I1.after hq
    | .ok .next, hq => exact False.elim hq
    | .ok .brk, hq => exact False.elim hq
    | .ok .cont, hq => exact False.elim hq
/-- repr(x) of lists and tuples of data -/
theorem call_reprD (hG : X.A.guards = some []) (hu : X.A.units + 64 < cLine) : CallR X (.builtin "repr") (fun xs H Q => ∃ (a : Addr) (d : PyData), xs = [.ref a] ∧ Dp X.K H (.ref a) d ∧ d.showable = true ∧ d.hasDict = false ∧ d.depth ≤ 60 ∧ d.shown.length ≤ sizeLine ∧ Q (.str d.shown) H) := by
  intro pins s σ H xs us Q I r h
  obtain ⟨a, d, rfl, hd, hs, hn, hdp, hz, q⟩ := h
  rw [Vals.ref1 r]
  obtain ⟨as, hr⟩ := Dp.reads I d (.ref a) (.ref a) hd rfl
  exact repr_of_reads' hr hs (fun z => by rw [hn] at z; cases z) hG (by omega) (fun _ _ z => z) (fun h' u tk hk => ⟨.str d.shown, H, I.kept (t' := tk) hk, ⟨u, rfl⟩, q⟩) hz
theorem call_reprB : CallR X (.builtin "repr") (fun xs H Q => ∃ b : Bool, xs = [.bl b] ∧ Q (.str (if b then "True" else "False")) H) := by
  intro pins s σ H xs us Q I r h
  obtain ⟨b, rfl, q⟩ := h
  obtain ⟨u, rfl, rfl⟩ := vals1 r
  exact P.repr_of_bool ⟨.str (if b then "True" else "False"), H, I.tok _, ⟨_, rfl⟩, q⟩
end
/-! ### list(range(a, b, 2)) -/
theorem size2 {a b : Int} {n : Nat} (h : a < b) (hn : (b - a - 1) / 2 + 1 = n) : Builtin.Range.rangeSize a b 2 = n := by
  unfold Builtin.Range.rangeSize
  rw [if_pos (by decide), if_pos h, hn]
theorem size2_0 {a b : Int} (h : ¬ a < b) : Builtin.Range.rangeSize a b 2 = (0 : Nat) := by
  unfold Builtin.Range.rangeSize
  rw [if_pos (by decide), if_neg h]
  rfl
theorem small2 {a b : Int} (ha : -100000 ≤ a) (ha' : a < 100000) (hb : -100000 ≤ b) (hb' : b < 100000) : Builtin.Range.small a b 2 = true := by
  unfold Builtin.Range.small
  by_cases h : a < b
  · rw [size2 (n := ((b - a - 1) / 2 + 1).toNat) h (by omega)]
    simp only [Builtin.Range.rangeFitsLong, Bool.and_eq_true, Bool.or_eq_true, decide_eq_true_eq, beq_iff_eq, show (2 : Int) > 0 by decide, if_true]
    omega
  · rw [size2_0 h]
    simp only [Builtin.Range.rangeFitsLong, Bool.and_eq_true, Bool.or_eq_true, decide_eq_true_eq, beq_iff_eq, show (2 : Int) > 0 by decide, if_true]
    omega
/-- a, a + 2, .. : n of them -/
def upV (a : Int) (n : Nat) : List V := (List.range n).map fun i => V.int (a + (i : Nat) * 2)
theorem upV_length (a : Int) (n : Nat) : (upV a n).length = n := by rw [upV, List.length_map, List.length_range]
section
variable {X : Cx} {a b : Expr} {ta : TA}
def tLst2 (ta : TA) : TE := fun σ H Q => ta σ H fun vs H1 => ∃ (i j : Int) (n : Nat), vs = [.int i, .int j, .int 2] ∧ -100000 ≤ i ∧ i < 100000 ∧ -100000 ≤ j ∧ j < 100000 ∧ Builtin.Range.rangeSize i j 2 = n ∧ ∀ q, H1 q = none → Q (.ref q) (upd H1 q (.lst (upV i n)))
theorem pe_list2 {c : Expr} {p pos p2 pos2 : Pos} (hc : X.calm = true) (hgl : Gl X "list") (hml : X.mg "list" = none) (hgr : Gl X "range") (hmr : X.mg "range" = none) (ha : PA X [a, b, c] ta)
    (hs : starEach [a, b, c] X.env = (false, eval a X.env) :: starEach [b, c] X.env := by rfl) (hpl : (backTo pos2 (starEach [b, c] X.env)).any (·.1) = false := by rfl)
    (hs2 : starEach [Expr.Call (.Name "range" p2) [a, b, c] [] pos2] X.env = (false, eval (.Call (.Name "range" p2) [a, b, c] [] pos2) X.env) :: starEach [] X.env := by rfl) :
    PE X (.Call (.Name "list" p) [.Call (.Name "range" p2) [a, b, c] [] pos2] [] pos) (tLst2 ta) := by
  refine ⟨fun pins s σ H Q I h => ?_⟩
  refine Call_ (ld_blt I hgl hml boot_list (PyProof.Rows.callWith_type1 (args_cons ?_ hs2) hs2))
  refine Call_ (ld_blt I hgr hmr boot_range (PyProof.Rows.callWith_type1 (thn (ha.run pos2 pins s σ H _ I h) fun us s1 z => ?_) hs hpl))
  obtain ⟨vs, H1, I1, r1, i, j, n, rfl, i1, i2, j1, j2, hn, q⟩ := z
  match us, r1 with
  | [_, _, _], .cons ⟨t, rfl⟩ (.cons ⟨t', rfl⟩ (.cons ⟨t'', rfl⟩ .nil)) =>
    refine call_range_3 (by decide) (args_nil ?_) (Or.inl (PyProof.noPylong_of_log2 (by decide +kernel)))
    have I2 : Inv X pins σ H1 { s1 with heap := s1.heap.push { cls := .type "range", data := .fields #[.int i t, .int j t', .int 2 t''] } } := I1.kept (t' := s1.toks) fun b u e => Heap.get?_push_of_some _ e
    have nle : n ≤ 2 ^ 24 := by
      unfold Builtin.Range.rangeSize at hn
      rw [if_pos (by decide)] at hn
      by_cases z : i < j
      · rw [if_pos z] at hn
        omega
      · rw [if_neg z] at hn
        omega
    refine call_list_range (n := n) (I2.ok.hd hc) (IsRange.new _ _ _ _ _ _ _) (small2 i1 i2 j1 j2) hn nle fun h' tk acc c' hk e' hi => ?_
    have hv : Vals (upV i n) acc.toList := by
      have e : acc.toList.length = n := by rw [Array.length_toList]; exact hi.1
      rw [upV, ← e]
      refine vals_of_get acc.toList _ fun k u hj => ?_
      obtain ⟨y, rfl⟩ := hi.2 k u (by rw [← hj, Array.getElem?_toList])
      exact ⟨y, rfl⟩
    refine ⟨.ref _, upd H1 _ (.lst (upV i n)), I2.laid hk (Nat.le_refl _) (show ObjOk X.prog X.w _ _ _ (.lst (upV i n)) from ⟨?_, acc.toList, c', hv, ?_⟩), rfl, q _ (I2.hok.fresh (Nat.le_refl _))⟩
    · rw [upV_length, sizeLine_eq]
      omega
    · rw [Array.toArray_toList]
      exact e'
end
end TCX
/-! What the head tells of the program's exception classes. -/
namespace TCX
open PySem PySem.Spec PyProof.Rows L2
/-- what isinstance asks of the class at D -/
def excB (K : PySem.W.Frag) (D : Addr) : Bool :=
  He.eqO (PySem.W.findIn K (.ref D) "__getattribute__") (some (some (.builtin "BaseException.__getattribute__"))) && (He.eqO (PySem.W.findIn K (.ref D) "__getattr__") (some none) && (decide (PySem.W.subIn K (.ref D) (.type "BaseException") = some true) &&
    (PySem.W.hasDictIn K D && (He.eqO (PySem.W.findIn K (.ref D) "__class__") (some (some (.builtin "object.__class__"))) && (He.eqO (PySem.W.specialIn K (.builtin "object.__class__") "__get__") (some (some (.builtin "getset_descriptor.__get__"))) &&
      (decide (PySem.W.takesIn K (.builtin "object.__class__") = some true) && decide (PySem.W.mroIn K D (.type "object") = some true)))))))
theorem excB_ok {K : PySem.W.Frag} {D : Addr} (h : excB K D = true) : ExcC K D := by
  obtain ⟨h1, h⟩ := He.ba h
  obtain ⟨h2, h⟩ := He.ba h
  obtain ⟨h3, h⟩ := He.ba h
  obtain ⟨h4, h⟩ := He.ba h
  obtain ⟨h5, h⟩ := He.ba h
  obtain ⟨h6, h⟩ := He.ba h
  obtain ⟨h7, h8⟩ := He.ba h
  exact ⟨He.eqO_ok h1, He.eqO_ok h2, of_decide_eq_true h3, h4, He.eqO_ok h5, He.eqO_ok h6, of_decide_eq_true h7, of_decide_eq_true h8⟩
/-- the classes in the order in which _law_word asks for them -/
def clsN : List Str := (["Empty", "NoDeed", "NoHalf", "NoLinking", "NoNet", "NoNumber", "NoOffset", "NoQuestion", "NoRow", "NoSize", "NoStanding"] : List Str) ++ (["NoTable", "NoText", "NotParted", "NoTree", "NoTriple", "NoWay", "TooWide", "ByNought", "NoName", "NoPlace", "NothingDone"] : List Str)
def words : List Str := (["empty", "deed", "half", "linking", "net", "number", "offset", "question", "row", "size", "standing"] : List Str) ++ (["table", "text", "parted", "tree", "triple", "way", "wide", "nought", "name", "place", "done"] : List Str)
/-- of the 22 classes the at-th one alone is D's -/
def Kits (K : PySem.W.Frag) (D : Addr) (at_ : Nat) : Prop := clsN.map (fun x => PySem.W.kitOne K (.ref D) (.ref (He.ga K x))) = (List.range 22).map fun i => some (i == at_)
instance {K : PySem.W.Frag} {D : Addr} {n : Nat} : Decidable (Kits K D n) := inferInstanceAs (Decidable (_ = _))
theorem Kits.at {K : PySem.W.Frag} {D : Addr} {n : Nat} (h : Kits K D n) (i : Nat) {x : Str} (hx : clsN[i]? = some x) : PySem.W.kitOne K (.ref D) (.ref (He.ga K x)) = some (i == n) := by
  have e := congrArg (fun l : List (Option Bool) => l[i]?) h
  have hi : i < 22 := by
    obtain ⟨z, _⟩ := List.getElem?_eq_some_iff.mp hx
    exact Nat.lt_of_lt_of_eq z rfl
  simp only [List.getElem?_map, hx, Option.map_some] at e
  rw [List.getElem?_range hi] at e
  exact Option.some.inj e
structure Kind (K : PySem.W.Frag) (D : Addr) (n : Nat) : Prop where
  ec : ExcC K D
  kits : Kits K D n
  te : PySem.W.kitOne K (.ref D) (.ref (He.ga K "TurnError")) = some (decide (n < 18))
  ve : PySem.W.kitOne K (.ref D) (.type "ValueError") = some (decide (n < 18))
def excAll (K : PySem.W.Frag) (x : Str) (n : Nat) : Bool := excB K (He.ga K x) && (decide (Kits K (He.ga K x) n) && (decide (PySem.W.kitOne K (.ref (He.ga K x)) (.ref (He.ga K "TurnError")) = some (decide (n < 18))) && (decide (PySem.W.kitOne K (.ref (He.ga K x)) (.type "ValueError") = some (decide (n < 18))) &&
  decide (PySem.W.exmAny K (.ref (He.ga K x)) [.ref (He.ga K "TurnError")] = some (decide (n < 18))))))
theorem excAll_ok {K : PySem.W.Frag} {x : Str} {n : Nat} (h : excAll K x n = true) : Kind K (He.ga K x) n ∧ PySem.W.exmAny K (.ref (He.ga K x)) [.ref (He.ga K "TurnError")] = some (decide (n < 18)) := by
  obtain ⟨h1, h⟩ := He.ba h
  obtain ⟨h2, h⟩ := He.ba h
  obtain ⟨h3, h⟩ := He.ba h
  obtain ⟨h4, h5⟩ := He.ba h
  exact ⟨⟨excB_ok h1, of_decide_eq_true h2, of_decide_eq_true h3, of_decide_eq_true h4⟩, of_decide_eq_true h5⟩
/-- as Kind, of all the classes -/
structure KindF (K : PySem.W.Frag) (D : Addr) (n : Nat) : Prop where
  ec : ExcC K D
  kits : Kits K D n
  te : PySem.W.kitOne K (.ref D) (.ref (He.ga K "TurnError")) = some (decide (n < 18))
  ve : PySem.W.kitOne K (.ref D) (.type "ValueError") = some (decide (n < 18))
  kz : PySem.W.kitOne K (.ref D) (.type "ZeroDivisionError") = some (n == 18)
  ky : PySem.W.kitOne K (.ref D) (.type "KeyError") = some (n == 19)
  ki : PySem.W.kitOne K (.ref D) (.type "IndexError") = some (n == 20)
  kl : PySem.W.kitOne K (.ref D) (.type "LookupError") = some (decide (19 ≤ n))
  kt : PySem.W.kitAny K (.ref D) [.type "KeyError", .type "IndexError"] = some (n == 19 || n == 20)
  x5 : PySem.W.exmAny K (.ref D) [.ref (He.ga K "TurnError"), .ref (He.ga K "ByNought"), .ref (He.ga K "NoName"), .ref (He.ga K "NoPlace"), .ref (He.ga K "NothingDone")] = some true
def excAllF (K : PySem.W.Frag) (x : Str) (n : Nat) : Bool := excB K (He.ga K x) && (decide (Kits K (He.ga K x) n) && (decide (PySem.W.kitOne K (.ref (He.ga K x)) (.ref (He.ga K "TurnError")) = some (decide (n < 18))) && (decide (PySem.W.kitOne K (.ref (He.ga K x)) (.type "ValueError") = some (decide (n < 18))) &&
  (decide (PySem.W.kitOne K (.ref (He.ga K x)) (.type "ZeroDivisionError") = some (n == 18)) && (decide (PySem.W.kitOne K (.ref (He.ga K x)) (.type "KeyError") = some (n == 19)) && (decide (PySem.W.kitOne K (.ref (He.ga K x)) (.type "IndexError") = some (n == 20)) && (decide (PySem.W.kitOne K (.ref (He.ga K x)) (.type "LookupError") = some (decide (19 ≤ n))) &&
  (decide (PySem.W.kitAny K (.ref (He.ga K x)) [.type "KeyError", .type "IndexError"] = some (n == 19 || n == 20)) && decide (PySem.W.exmAny K (.ref (He.ga K x)) [.ref (He.ga K "TurnError"), .ref (He.ga K "ByNought"), .ref (He.ga K "NoName"), .ref (He.ga K "NoPlace"), .ref (He.ga K "NothingDone")] = some true)))))))))
theorem excAllF_ok {K : PySem.W.Frag} {x : Str} {n : Nat} (h : excAllF K x n = true) : KindF K (He.ga K x) n := by
  obtain ⟨h1, h⟩ := He.ba h
  obtain ⟨h2, h⟩ := He.ba h
  obtain ⟨h3, h⟩ := He.ba h
  obtain ⟨h4, h⟩ := He.ba h
  obtain ⟨h5, h⟩ := He.ba h
  obtain ⟨h6, h⟩ := He.ba h
  obtain ⟨h7, h⟩ := He.ba h
  obtain ⟨h8, h⟩ := He.ba h
  obtain ⟨h9, ha⟩ := He.ba h
  exact ⟨excB_ok h1, of_decide_eq_true h2, of_decide_eq_true h3, of_decide_eq_true h4, of_decide_eq_true h5, of_decide_eq_true h6, of_decide_eq_true h7, of_decide_eq_true h8, of_decide_eq_true h9, of_decide_eq_true ha⟩
/-- an own class over ZeroDivisionError -/
def zBase : List Value := [.type "ZeroDivisionError", .type "ArithmeticError", .type "Exception", .type "BaseException", .type "object"]
def excZ (K : PySem.W.Frag) (x : Str) : Bool := PySem.W.excIn K (He.ga K x) zBase "ZeroDivisionError.__new__" && (PySem.W.keepIn K (.ref (He.ga K x)) && (decide (PySem.W.subIn K (.ref (He.ga K x)) (.type "BaseException") = some true) && decide (PySem.W.typeIn K (.ref (He.ga K x)) = some (.type "type"))))
theorem excZ_ok {K : PySem.W.Frag} {x : Str} (h : excZ K x = true) : PySem.W.excIn K (He.ga K x) zBase "ZeroDivisionError.__new__" = true ∧ PySem.W.keepIn K (.ref (He.ga K x)) = true ∧ PySem.W.subIn K (.ref (He.ga K x)) (.type "BaseException") = some true ∧ PySem.W.typeIn K (.ref (He.ga K x)) = some (.type "type") := by
  obtain ⟨h1, h⟩ := He.ba h
  obtain ⟨h2, h⟩ := He.ba h
  obtain ⟨h3, h4⟩ := He.ba h
  exact ⟨h1, h2, of_decide_eq_true h3, of_decide_eq_true h4⟩
end TCX
namespace TC
open PySem PySem.Spec PyProof.Rows L2
/-! the text by places -/
def top (i : Nat) : Stmt := PySem.Challenge.pw_turncouple_k12_whole_ladders_and_sums.main.body.getD i (.Pass ⟨0, 0, 0, 0⟩)
abbrev sWhole : Stmt := top 11
abbrev sShared : Stmt := top 12
abbrev sLowest : Stmt := top 13
abbrev sSumLow : Stmt := top 14
abbrev sPrimesIn : Stmt := top 15
abbrev sSquares : Stmt := top 16
abbrev sOdd : Stmt := top 18
abbrev sFacts : Stmt := top 19
abbrev sPrimesF : Stmt := top 20
abbrev sPlus : Stmt := top 27
abbrev sTimes : Stmt := top 28
abbrev sOver : Stmt := top 29
abbrev sRootOf : Stmt := top 30
abbrev sRootF : Stmt := top 31
abbrev sNeed : Stmt := top 32
abbrev sMerged : Stmt := top 33
abbrev sOneBottom : Stmt := top 34
abbrev sLowered : Stmt := top 35
abbrev sProducts : Stmt := top 36
abbrev sPrimesRoots : Stmt := top 37
abbrev sUpside : Stmt := top 38
abbrev sJoined : Stmt := top 43
abbrev sLadder : Stmt := top 44
abbrev sIsSize : Stmt := top 45
abbrev sIsOffset : Stmt := top 46
abbrev sNeedSizes : Stmt := top 47
abbrev sNeedPairs : Stmt := top 48
abbrev sCanJoin : Stmt := top 49
abbrev sJoinedN : Stmt := top 50
abbrev sTerms : Stmt := top 51
abbrev sTopN : Stmt := top 52
abbrev sBelowN : Stmt := top 53
abbrev sPen : Stmt := top 55
abbrev sDraw : Stmt := top 56
abbrev sLow : Stmt := top 57
abbrev sCleared : Stmt := top 58
abbrev sBy : Stmt := top 59
abbrev sParts : Stmt := top 60
abbrev sRooted : Stmt := top 61
abbrev sFactorial : Stmt := top 62
abbrev sTwo : Stmt := top 63
abbrev sIs : Stmt := top 64
abbrev sFits : Stmt := top 65
abbrev sThird : Stmt := top 66
abbrev sPairs : Stmt := top 67
abbrev sSizesL : Stmt := top 68
abbrev sCaseL : Stmt := top 69
abbrev sLadL : Stmt := top 70
abbrev sLaw : Stmt := top 71
abbrev sExact : Stmt := top 26
abbrev sInit : Stmt := inClass (top 25) 0
abbrev sEq : Stmt := inClass (top 25) 1
abbrev sStr : Stmt := inClass (top 25) 2
abbrev sRepr : Stmt := inClass (top 25) 3
abbrev FnP (K : PySem.W.Frag) (x : Str) (st : Stmt) (f : Addr) (fd : FuncData) : Prop := FunD K x x (defArgs st) (defBody st) (defScope st) [] [] f fd
/-- the primes below 1000 -/
def primes : List Int := [2, 3, 5, 7, 11, 13, 17, 19, 23, 29, 31, 37, 41, 43, 47, 53, 59, 61, 67, 71, 73, 79, 83, 89, 97, 101, 103, 107, 109, 113, 127, 131, 137, 139, 149, 151, 157, 163, 167, 173, 179, 181, 191, 193, 197, 199, 211, 223, 227, 229, 233, 239, 241, 251, 257, 263, 269, 271, 277, 281, 283, 293, 307, 311, 313, 317, 331, 337, 347, 349, 353, 359, 367, 373, 379, 383, 389, 397, 401, 409, 419, 421, 431, 433, 439, 443, 449, 457, 461, 463, 467, 479, 487, 491, 499, 503, 509, 521, 523, 541, 547, 557, 563, 569, 571, 577, 587, 593, 599, 601, 607, 613, 617, 619, 631, 641, 643, 647, 653, 659, 661, 673, 677, 683, 691, 701, 709, 719, 727, 733, 739, 743, 751, 757, 761, 769, 773, 787, 797, 809, 811, 821, 823, 827, 829, 839, 853, 857, 859, 863, 877, 881, 883, 887, 907, 911, 919, 929, 937, 941, 947, 953, 967, 971, 977, 983, 991, 997]
/-! the head: facts by names -/
def dd (x : Str) (st : Stmt) : He.DefD := ⟨(x, none), x, x, defArgs st, defBody st, defScope st, [], []⟩
def dm (m q : Str) (st : Stmt) : He.DefD := ⟨("Exact", some m), m, q, defArgs st, defBody st, defScope st, [], []⟩
def dExact : He.DefD := ⟨("exact", none), "exact", "exact", defArgs sExact, defBody sExact, defScope sExact, [], [("bottom", .int 1), ("root", .int 1)]⟩
def fn : List He.DefD := ([dm "__init__" "Exact.__init__" sInit, dm "__eq__" "Exact.__eq__" sEq, dExact, dd "is_whole" sWhole, dd "shared" sShared, dd "in_lowest" sLowest, dd "sum_in_lowest" sSumLow, dd "primes_in" sPrimesIn, dd "squares_out" sSquares, dd "is_odd" sOdd, dd "factorials" sFacts, dd "primes_of_factorials" sPrimesF, dd "plus" sPlus, dd "times" sTimes, dd "over" sOver, dd "root_of" sRootOf] : List He.DefD) ++ ([dd "root_of_factorials" sRootF, dd "need_exact" sNeed, dd "merged" sMerged, dd "on_one_bottom" sOneBottom, dd "lowered" sLowered, dd "products" sProducts, dd "primes_of_roots" sPrimesRoots, dd "upside_down" sUpside, dd "joined" sJoined, dd "ladder" sLadder, dd "is_size" sIsSize, dd "is_offset" sIsOffset, dd "need_sizes" sNeedSizes, dd "need_pairs" sNeedPairs, dd "can_join" sCanJoin, dd "joined_number" sJoinedN] : List He.DefD) ++ ([dd "terms_of_joined" sTerms, dd "numbers_at_top" sTopN, dd "numbers_below" sBelowN, dd "_law_pen" sPen, dd "_law_draw" sDraw, dd "_law_low" sLow, dd "_law_cleared" sCleared, dd "_law_by" sBy, dd "_law_parts" sParts, dd "_law_rooted" sRooted, dd "_law_factorial" sFactorial, dd "_law_two" sTwo, dd "_law_is" sIs, dd "_law_fits" sFits, dd "_law_third" sThird, dd "_law_pairs" sPairs] : List He.DefD) ++ ([dd "_law_sizes" sSizesL, dd "_law_case" sCaseL, dd "_law_ladder_right" sLadL, dd "law" sLaw] : List He.DefD)
def fa : List He.Fa := ([.glo "Exact", .glo "exact", .glo "PRIMES", .int "HIGHEST_ROOT" 1000000, .int "HIGHEST_SIZE" 40, .int "MOST_PRIMES" 6, .int "TOO_LONG" (10 ^ 60), .cls "Exact", .noat "Exact" "parts", .mkr "Exact", .meth "Exact" "__eq__", .glo "is_whole", .glo "shared", .glo "in_lowest", .glo "sum_in_lowest", .glo "primes_in"] : List He.Fa) ++ ([.glo "squares_out", .glo "is_odd", .glo "factorials", .glo "primes_of_factorials", .glo "plus", .glo "times", .glo "over", .glo "root_of", .glo "root_of_factorials", .glo "need_exact", .glo "merged", .glo "on_one_bottom", .glo "lowered", .glo "products", .glo "primes_of_roots", .glo "upside_down"] : List He.Fa) ++ ([.glo "joined", .glo "ladder", .glo "is_size", .glo "is_offset", .glo "need_sizes", .glo "need_pairs", .glo "can_join", .glo "joined_number", .glo "terms_of_joined", .glo "numbers_at_top", .glo "numbers_below", .glo "_law_pen", .glo "_law_draw", .glo "_law_low", .glo "_law_cleared", .glo "_law_by"] : List He.Fa) ++ ([.glo "_law_parts", .glo "_law_rooted", .glo "_law_factorial", .glo "_law_two", .glo "_law_is", .glo "_law_fits", .glo "_law_third", .glo "_law_pairs", .glo "_law_sizes", .glo "_law_case", .glo "_law_ladder_right", .glo "law", .glo "TurnError", .glo "NoNumber", .glo "NoSize", .glo "NoOffset"] : List He.Fa) ++ ([.glo "TooWide", .glo "ByNought", .exc "NoNumber", .exc "NoSize", .exc "NoOffset", .exc "TooWide", .free "isinstance", .free "int", .free "bool", .free "abs", .free "sorted", .free "list", .free "tuple", .free "len", .free "range", .free "reversed"] : List He.Fa) ++ ([.free "dict", .free "max", .free "min", .free "sum", .free "any", .free "divmod", .free "enumerate", .free "repr", .free "str"] : List He.Fa)
def others : List String := ["int", "NoneType", "str", "tuple", "list", "bool", "dict"]
/-- more facts: the tuple of primes, what == and isinstance ask of Exact -/
def exN (K : PySem.W.Frag) : Bool :=
  He.tupB K "PRIMES" (primes.map He.Dv.int) &&
  (He.eqO (PySem.W.findIn K (.ref (He.ga K "Exact")) "__ne__") (some (some (.builtin "object.__ne__"))) &&
  (He.eqO (PySem.W.findIn K (.ref (He.ga K "Exact")) "__class__") (some (some (.builtin "object.__class__"))) &&
  (He.eqO (PySem.W.specialIn K (.builtin "object.__class__") "__get__") (some (some (.builtin "getset_descriptor.__get__"))) &&
  (decide (PySem.W.takesIn K (.builtin "object.__class__") = some true) &&
  (decide (PySem.W.mroIn K (He.ga K "Exact") (.type "object") = some true) &&
  (others.all fun t => decide (PySem.W.subIn K (.type t) (.ref (He.ga K "Exact")) = some false) && decide (PySem.W.kitOne K (.type t) (.ref (He.ga K "Exact")) = some false)))))))
def exB (K : PySem.W.Frag) : Bool := exN K && TCX.excZ K "ByNought"
def tf : List He.Defn := []
def hk : PySem.W.Hook := He.hookX 5 fa fn [] tf exB
abbrev R : PySem.W.OpenRow := PySem.W.OpenLaw.row PySem.Challenge.rw_turncouple_k12_whole_ladders_and_sums
def ob (s : PySem.W.SharedT) : He.AlX := He.obsX 5 fa fn [] tf exB (HandSHeadRun.getT s)
theorem ob_eq (s : PySem.W.SharedT) : ob s = hk.obs s.abs := He.obsX_eq (s := s.abs) (HandSHeadRun.getT_eq s)
def loose : List PySem.Str := (["TurnError", "NoNumber", "NoSize", "NoOffset", "TooWide", "ByNought", "PRIMES", "BLOCK_FIGURES", "BLOCK", "is_whole", "shared", "in_lowest", "sum_in_lowest", "primes_in", "squares_out", "figures"] : List PySem.Str) ++ (["is_odd", "factorials", "primes_of_factorials", "HIGHEST_ROOT", "MOST_PRIMES", "TOO_LONG", "Exact", "exact", "plus", "times", "over", "root_of", "root_of_factorials", "need_exact", "merged", "on_one_bottom"] : List PySem.Str) ++ (["lowered", "products", "primes_of_roots", "upside_down", "text_of", "text_of_part", "HIGHEST_SIZE", "joined", "ladder", "is_size", "is_offset", "need_sizes", "need_pairs", "can_join", "joined_number", "terms_of_joined"] : List PySem.Str) ++ (["numbers_at_top", "numbers_below", "_law_pen", "_law_draw", "_law_low", "_law_cleared", "_law_by", "_law_parts", "_law_rooted", "_law_factorial", "_law_two", "_law_is", "_law_fits", "_law_third", "_law_pairs", "_law_sizes"] : List PySem.Str) ++ (["_law_case", "_law_ladder_right"] : List PySem.Str)
end TC
namespace TC
open PySem PySem.Spec PyProof.Rows L2
theorem run (w : World) : HandSHeadRun.RunEq R (PySem.W.view R.prog [71]) hk ob 30000 loose w := by
  intro os
  kernel_rfl
end TC
/-! Rules of my own: == and != by an own __eq__ with either answer, str of an instance, enumerate of a tuple. -/
namespace TCA
open PySem PySem.Spec PyProof.Rows L2
/-! ### enumerate(tuple) -/
theorem meets_enum1 {v : Value} {o : Obj} {H : Heap → Prop} (B : Begins v o H) :
    Meets (Builtin.«enumerate.__new__» ⟨[.type "enumerate", v], []⟩) (fun _ R s => H s.heap ∧
      R (.ok (.ret (.ref (s.heap.push o).objs.size))) { s with heap := (s.heap.push o).push { cls := .type "enumerate", data := .fields #[.none, .bool false, .ref s.heap.objs.size, rawInt 0, .none, .none] } }) :=
  .of_wp fun prog w A R s h => by
    obtain ⟨hp, g, d, tk, os⟩ := s; obtain ⟨h1, h⟩ := h
    have hsub := sub_enumerate
    have q1 : ∀ {A' : Around} {E : Value → Shared → Prop} {Q : Value → Shared → Prop}, Q (.ref hp.objs.size) ⟨hp.push o, g, d, tk, os⟩ → wpAny (model prog w) A' (pyIter v) Q E ⟨hp, g, d, tk, os⟩ :=
      fun q => B.iter prog w _ _ ⟨hp, g, d, tk, os⟩ _ h1 q
    wp_walk using q1
    refine wpAny_stack_any fun st => wpAny_pure ?_
    split
    · rename_i c _ _ _ _ _
      cases (c == Value.type "enumerate")
      · wp_walk using q1
        exact ⟨_, rfl, h⟩
      · wp_walk using q1
        exact ⟨_, rfl, h⟩
    · wp_walk using q1
      exact ⟨_, rfl, h⟩
theorem enum_begins1 {prog : Program} {w : World} {A : Around} {E : Value → Shared → Prop} {s : Shared} {v : Value} {o : Obj} {H : Heap → Prop} {Q : Value → Shared → Prop} (B : Begins v o H) (h1 : H s.heap)
    (h : ∀ h', IsEnum h' (s.heap.objs.size + 1) s.heap.objs.size 0 .none → h'.get? s.heap.objs.size = some o → h'.objs.size = s.heap.objs.size + 2 →
      (∀ b o, s.heap.get? b = some o → h'.get? b = some o) → Q (.ref (s.heap.objs.size + 1)) { s with heap := h' }) :
    wpAny (model prog w) A (call (.type "enumerate") [v]) Q E s := by
  refine callType_new F.called_enumerate (by decide) (F.typeCall_enumerate_1 _) (F.newCall_enumerate_1 _) (fun obj => F.args_object_init_2 obj _) F.entry_enumerate_new
    (meets_enum1 B) ⟨h1, ?_⟩
  have hz : (s.heap.push o).objs.size = s.heap.objs.size + 1 := Heap.size_push ..
  show _ ∧ _
  rw [hz]
  have he : IsEnum ((s.heap.push o).push { cls := .type "enumerate", data := .fields #[.none, .bool false, .ref s.heap.objs.size, rawInt 0, .none, .none] }) (s.heap.objs.size + 1) s.heap.objs.size 0 .none := by
    have := Heap.get?_push_size (s.heap.push o) (o := { cls := .type "enumerate", data := .fields #[.none, .bool false, .ref s.heap.objs.size, rawInt 0, .none, .none] }) rfl
    rw [hz] at this; exact this
  refine ⟨⟨_, he, rfl⟩, h _ he (Heap.get?_push_of_some _ (Heap.get?_push_size _ B.free)) (by rw [Heap.size_push, hz]) fun b o x => Heap.get?_push_of_some _ (Heap.get?_push_of_some _ x)⟩
/-- the tuple at a of xs, each item in a new pair -/
def Iet (K : PySem.W.Frag) (a : Addr) (xs : List V) : It :=
  ⟨fun i H => i < xs.length ∧ SqT K H a xs, fun i H v H' => ∃ T x, v = .ref T ∧ H T = none ∧ H' = upd H T (.tup [.int (i : Nat), x]) ∧ xs[i]? = some x, fun i H => xs.length ≤ i ∧ SqT K H a xs⟩
theorem turn_enumT {P : Program} {w : World} {K : PySem.W.Frag} {elts : List Expr} {kk : Nat} {tpos : Pos} (a e it : Addr) (xs : List V) :
    Turn P w K (.Tuple elts kk tpos) (Iet K a xs) [e, it] e (fun i h => (∃ old, IsEnum h e it ((i : Nat) : Int) old) ∧ h.IsTupleIter it a i ∧ e ≠ it ∧ a ≠ it ∧ e ≠ a ∧ i ≤ xs.length) where
  mem := by simp
  obj := fun i h st b hb => by
    obtain ⟨⟨old, he⟩, ⟨o, ho, hc, hd⟩, _⟩ := st
    have e' : b = e ∨ b = it := by simpa using hb
    rcases e' with z | z
    · rw [z]; exact ⟨_, he, fun v q => nomatch q⟩
    · rw [z]; exact ⟨o, ho, fun v q => by rw [hd] at q; cases q⟩
  keep := fun i h h' st k => let ⟨⟨old, he⟩, hi, hne⟩ := st; ⟨⟨old, k e (by simp) _ he⟩, hi.at fun o q => k it (by simp) o q, hne⟩
  item := by
    intro X hP hw hK hc i pins s σ H E I hf st hg
    subst hP hw hK
    obtain ⟨⟨old, he⟩, hit, hne, hai, hea, hle⟩ := st
    obtain ⟨hlt, hq⟩ := hg
    obtain ⟨its, rv, p, hz⟩ := I.tuple hq
    have hl := rv.length
    have hel : e < s.heap.objs.size := Heap.lt_size he
    have hil : it < s.heap.objs.size := by obtain ⟨_, q, _⟩ := hit; exact Heap.lt_size q
    have hh : X.A.in1.handled = none := I.ok.hd hc
    have D := Draws.tuple (prog := X.prog) (w := X.w) hh it a hai its.toArray
    refine wpAny_pyNext_enum_itemD D he ⟨hit, p⟩ (by simp; omega) hne (by simp; exact ⟨hne, hea⟩) fun u h' tk hu ho hst hT hsz hk => ?_
    obtain ⟨hit', _⟩ := hst
    have hu2 : its[i]? = some u := by simpa using hu
    have hx : xs[i]? = some xs[i] := List.getElem?_eq_getElem hlt
    obtain ⟨u2, hu3, ru⟩ := rv.get hx
    have eu : u2 = u := Option.some.inj (hu3.symm.trans hu2)
    subst eu
    refine ⟨_, rfl, wpAny_letOwnedTupleGo_enum (s := { s with heap := h', toks := tk + 1 }) ho fun h'' he' sb => ?_⟩
    have hT2 : h''.get? s.heap.objs.size = some { cls := .type "tuple", data := .seq #[.int i tk, u2] } := (sb.2 _ (Nat.ne_of_gt hel)).trans hT
    have new : ObjOk X.prog X.w (upd H s.heap.objs.size (.tup [.int (i : Nat), xs[i]])) h'' s.heap.objs.size (.tup [.int (i : Nat), xs[i]]) :=
      ⟨by show 2 ≤ sizeLine; decide, [.int i tk, u2], .cons ⟨_, rfl⟩ (.cons ru .nil), ⟨_, hT2, rfl, _, rfl⟩⟩
    have I1 : Inv X pins σ (upd H s.heap.objs.size (.tup [.int (i : Nat), xs[i]])) { s with heap := h'', toks := tk + 1 } :=
      I.turnedNew (ch := [e, it]) (fun b ob hb q => (sb.2 b (fun z => hb (by simp [z]))).trans (hk b ob (fun z => hb (by simp [z])) (fun z => hb (by simp [z])) q)) hf (Nat.le_refl _) new
    refine ⟨.ref s.heap.objs.size, _, I1, rfl, ⟨_, xs[i], rfl, I.hok.fresh (Nat.le_refl _), rfl, hx⟩, ⟨⟨u2, ?_⟩, hit'.at fun o q => (sb.2 it (Ne.symm hne)).trans q, hne, hai, hea, hlt⟩, fun b hb => ?_⟩
    · have e1 : ((i + 1 : Nat) : Int) = (i : Int) + 1 := by omega
      rw [e1]; exact he'
    · have hb' : b < s.heap.objs.size := by
        have e' : b = e ∨ b = it := by simpa using hb
        rcases e' with z | z
        · rw [z]; exact hel
        · rw [z]; exact hil
      rw [upd_ne (Nat.ne_of_lt hb')]
      exact (hf b hb).1
  done := by
    intro X hP hw hK hc i pins s σ H E I hf st hg
    subst hP hw hK
    obtain ⟨⟨old, he⟩, hit, hne, hai, hea, hle⟩ := st
    obtain ⟨hge, hq⟩ := hg
    obtain ⟨its, rv, p, hz⟩ := I.tuple hq
    obtain ⟨f0, f1, f2, f3, f4, f5⟩ := hf it (by simp)
    have hl := rv.length
    have hh : X.A.in1.handled = none := I.ok.hd hc
    have D := Draws.tuple (prog := X.prog) (w := X.w) hh it a hai its.toArray
    have ei : i = its.toArray.size := by simp; omega
    subst ei
    exact wpAny_pyNext_enum_endD D he ⟨hit, p⟩ fun h' eb => ⟨rfl, I.turned (t' := s.toks) (fun b o hb q => eb b o hb q) f0 f1 f3 f4 f5⟩
  self := fun A i s Q E st h => let ⟨⟨_, he⟩, _⟩ := st; wpAny_pyIter_enum he h
def iEnumT (K : PySem.W.Frag) (ta : TA) : TI := fun σ H R => ta σ H fun vs H1 => ∃ a xs, vs = [.ref a] ∧ SqT K H1 a xs ∧ R (Iet K a xs) H1
theorem pi_enumT {X : Cx} {e : Expr} {ta : TA} {p pos tpos : Pos} {elts : List Expr} {kk : Nat} (hg : Gl X "enumerate") (hm : X.mg "enumerate" = none) (ha : PA X [e] ta) (hs : starEach [e] X.env = [(false, eval e X.env)] := by rfl) :
    PI X (.Tuple elts kk tpos) (.Call (.Name "enumerate" p) [e] [] pos) (iEnumT X.K ta) := by
  refine ⟨fun pins s σ H R I h => ?_⟩
  refine Call_ (ld_blt I hg hm boot_enumerate (PyProof.Rows.callWith_type1 (thn (ha.run pos pins s σ H _ I h) fun us s1 ⟨vs, H1, I1, r1, q1⟩ => ?_) hs rfl))
  obtain ⟨a, xs, ex, hq, q⟩ := q1
  subst ex
  cases r1 with
  | cons r rr =>
    cases rr
    cases r
    obtain ⟨its, rv, p', hz⟩ := I1.tuple hq
    have hal : a < s1.heap.objs.size := by obtain ⟨o, h1, _⟩ := p'; exact Heap.lt_size h1
    refine enum_begins1 (begins_tuple a its.toArray) p' fun h' he hit hsz hk => wpAny_pyIter_enum he ?_
    have I2 : Inv X pins σ H1 { s1 with heap := h' } := I1.kept (t' := s1.toks) hk
    refine ⟨s1.heap.objs.size + 1, [s1.heap.objs.size + 1, s1.heap.objs.size], _, _, H1, rfl, I2, turn_enumT a (s1.heap.objs.size + 1) s1.heap.objs.size xs, ⟨⟨.none, he⟩, ⟨_, hit, rfl, rfl⟩, Nat.succ_ne_self _, Nat.ne_of_lt hal, Nat.ne_of_gt (Nat.lt_succ_of_lt hal), Nat.zero_le _⟩, fun b hb => ?_, q⟩
    have e' : b = s1.heap.objs.size + 1 ∨ b = s1.heap.objs.size := by simpa using hb
    have hle : s1.heap.objs.size ≤ b := by
      rcases e' with z | z
      · rw [z]; exact Nat.le_add_right _ _
      · rw [z]; exact Nat.le_refl _
    exact I1.fpOk hle (I1.hok.fresh hle)
/-! ### == and != by an own __eq__ -/
section
variable {X : Cx} {CX : CXT} {n : Nat} {C f : Addr} {fd : FuncData} {ps : List Str} {sp : Sp} {E : XK}
/-- the own method runs somewhere below -/
theorem run_sub {A : Around} {pins : List (Addr × Obj)} {σ : L2.St} {H : Hp} {s : Shared} {Q : VK} {us : List Value} {vs : List V} (F : FnOk X.prog X.w X.K X.mg X.base CX n f fd ps sp) (hb : Binds X.K fd ps []) (hx : Passes CX X E)
    (sb : Sub X n A) (I : Inv X pins σ H s) (r : Vals vs us) (h : sp vs H Q E) : wpAny (model X.prog X.w) A (call (.ref f) us) (EP X pins σ Q) X.xe s := by
  have e0 : Env0 X.prog X.w X.K X.mg X.base A X.stack s H := by
    have e := I.env0
    exact ⟨by rw [sb.fr]; exact e.frames, e.mod, e.bs, e.bsz, e.funs, e.frf, e.hok, e.bare⟩
  have hl : us.length = ps.length := by rw [← r.length]; exact F.len _ _ _ _ h
  refine wpAny_call (codeAny_mono (F.run A X.stack s H ⟨us, []⟩ us vs Q E sb.room e0 (by
    have := hb s us I.kIn (by simpa using hl)
    simpa using this) r h) fun r s' hq => ?_)
  cases r with
  | error e => exact hx pins σ H s e s' I hq
  | ok fl =>
    cases fl with
    | ret w => exact I.after hq
    | next => exact False.elim hq
    | brk => exact False.elim hq
    | cont => exact False.elim hq
/-- x == y, x an instance of the class at C with an own __eq__ that hands back a truth -/
def rEqO (K : PySem.W.Frag) (C : Addr) (sp : Sp) (E : XK) : R2 := fun x y H Q => ∃ a dx fs t, x = .ref a ∧ H a = some (.ins C dx fs) ∧ TyX K H y t ∧ PySem.W.notFirst K C t = true ∧
  sp [x, y] H (fun v H' => ∃ b, v = .bl b ∧ Q (.bl b) H') E
theorem op_eqO (F : FnOk X.prog X.w X.K X.mg X.base CX n f fd ps sp) (hs : PySem.W.findIn X.K (.ref C) "__eq__" = some (some (.ref f))) (hf : PySem.W.isFn X.K (.ref f) = true) (hb : Binds X.K fd ps []) (hx : Passes CX X E)
    (hr : Room n X.A) : OpR X (compareOp .Eq) (rEqO X.K C sp E) := by
  intro pins s σ H x y v u Q I rx ry hq
  obtain ⟨a, dx, fs, t, rfl, ha, ty, nf, q⟩ := hq
  cases (show v = Value.ref a from rx)
  obtain ⟨mA, J, _⟩ := ins_get I.hok ha
  obtain ⟨od, J, _⟩ := J.look
  obtain ⟨m, hF⟩ := I.fr
  obtain ⟨Pz, Z, pz, _⟩ := kit_of I ry ty
  have hu : X.A.units < cLine := Nat.lt_of_succ_lt (hu_of hr)
  refine PySem.W.cmp_K (op := .Eq) (tb := t) hu hF I.ok.mod.kin J (Z.ty _ _ I.kIn pz) nf hs hf ?_
  refine wpAny_mono (run_sub F hb hx ⟨hr, rfl⟩ I (.cons rx (.cons ry .nil)) q) (fun r s' hz => ?_) fun _ _ z => z
  obtain ⟨z, H', I', rz, b, rfl, qb⟩ := hz
  cases (show r = Value.bool b from rz)
  exact ⟨.bl b, H', I', rfl, qb⟩
/-- x != y: the default __ne__ asks the own __eq__ -/
def rNeO (K : PySem.W.Frag) (C : Addr) (sp : Sp) (E : XK) : R2 := fun x y H Q => ∃ a dx fs t, x = .ref a ∧ H a = some (.ins C dx fs) ∧ TyX K H y t ∧ PySem.W.notFirst K C t = true ∧
  sp [x, y] H (fun v H' => ∃ b, v = .bl b ∧ Q (.bl (!b)) H') E
theorem ifBound_B {M : Model} {A : Around} {E : Value → Shared → Prop} {s : Shared} {K : PySem.W.Frag} {x C : Addr} {ox : Obj} {od : Option Obj} {name : Str} {id : String} {args : List Value} {Q : Option Value → Shared → Prop} (X : K.In s.heap) (I : PySem.W.InstAt s.heap x ox C od)
    (hs : PySem.W.findIn K (.ref C) name = some (some (.builtin id))) (hb : ∀ self, bindSpecial (.builtin id) self = pure (.builtin id, [self]))
    (h : wpAny M A (call (.builtin id) (.ref x :: args)) (fun v => Q (some v)) E s) : wpAny M A (callSpecialIfBound? (.ref x) name args) Q E s := by
  simp only [callSpecialIfBound?, bindSpecialIfBound?]
  refine wpAny_holding (wpAny_bind (wpAny_bind (wpAny_bind (I.type.here ((PySem.W.looks_findIn X hs).here ?_)))))
  refine wpAny_bind (wpAny_askSetting (wpAny_ite ?_))
  have fin : wpAny M A (call (.builtin id) ([.ref x] ++ args) >>= fun v => pure (some v)) Q E s := wpAny_bind (wpAny_mono h (fun v s' h' => wpAny_pure h') fun _ _ h' => h')
  have L := (PySem.W.Looks.of_pure (M := M) (h := s.heap) (hb (.ref x)))
  split
  · exact wpAny_bind (L.here (wpAny_pure (by exact fin)))
  · exact wpAny_tryCatch (wpAny_bind (L.here (wpAny_pure (by exact fin))))
theorem op_neO (F : FnOk X.prog X.w X.K X.mg X.base CX n f fd ps sp) (hs : PySem.W.findIn X.K (.ref C) "__eq__" = some (some (.ref f))) (hf : PySem.W.isFn X.K (.ref f) = true) (hb : Binds X.K fd ps []) (hx : Passes CX X E)
    (hn : PySem.W.findIn X.K (.ref C) "__ne__" = some (some (.builtin "object.__ne__"))) (hm : PySem.W.mroIn X.K C (.type "object") = some true)
    (hr : Room (n + 1) X.A) : OpR X (compareOp .NotEq) (rNeO X.K C sp E) := by
  intro pins s σ H x y v u Q I rx ry hq
  obtain ⟨a, dx, fs, t, rfl, ha, ty, nf, q⟩ := hq
  cases (show v = Value.ref a from rx)
  obtain ⟨mA, J, _⟩ := ins_get I.hok ha
  obtain ⟨od, J, _⟩ := J.look
  obtain ⟨Pz, Z, pz, _⟩ := kit_of I ry ty
  have hu : X.A.units < cLine := Nat.lt_of_succ_lt (hu_of hr)
  have hu1 : X.A.in1.units < cLine := hu_of hr
  have K0 := I.kIn
  have run := run_sub F hb hx (A := X.A.in1) ⟨hr.in1, rfl⟩ I (.cons rx (.cons ry .nil)) q
  have one : wpAny (model X.prog X.w) X.A (tryCompare (.ref a) "__ne__" u) (fun r s' => ∃ v, r = some v ∧ EP X pins σ Q v s') X.xe s := by
    unfold tryCompare
    refine wpAny_bind (ifBound_B K0 J hn PySem.F.cmp_object.ne.bind ?_)
    refine wpAny_call (codeAny_call_builtin PySem.F.cmp_object.ne.plain PySem.F.cmpEntry_ne (PySem.W.check_slot (i := "object.__ne__") (owner := "object") (n := "__ne__") PySem.F.cmpKind_ne PySem.F.cmpSplit_ne (J.type.andThen (PySem.W.looks_mroIn K0 hm)) (PySem.F.cmpArgs_ne _ _) ?_))
    unfold Builtin.«object.__ne__»
    refine wpAny_bind (m := slotArgs "__ne__" 1 _) (wpAny_pure ?_)
    refine wpAny_bind (m := cRoomFor _ _) (wpAny_cRoomFor hu1 ?_)
    refine wpAny_bind (m := callSpecialIfBound? (.ref a) (Str.ofString "__eq__") _) (PySem.W.ifBound_K K0 J hs hf (wpAny_mono run (fun r s' hz => ?_) fun _ _ z => z))
    obtain ⟨z, H', I', rz, b, rfl, qb⟩ := hz
    cases (show r = Value.bool b from rz)
    refine wpAny_bind (wpAny_truthy_bool ?_)
    exact wpAny_pure (wpAny_pure ⟨_, rfl, .bl (!b), H', I', rfl, qb⟩)
  show wpAny (model X.prog X.w) X.A (richCompare .NotEq (.ref a) u) (EP X pins σ Q) X.xe s
  unfold richCompare
  simp only [oneThing_ref]
  refine wpAny_holding (wpAny_bind (wpAny_cRoomFor hu ?_))
  refine wpAny_bind (J.type.here (wpAny_bind ((Z.ty _ _ I.kIn pz).here ?_)))
  split
  · rename_i q2
    have e : PySem.W.subIn X.K t (.ref C) = some false := by
      rcases Bool.or_eq_true_iff.mp nf with e | e
      · rw [beq_iff_eq.mp e] at q2; simp at q2
      · exact beq_iff_eq.mp e
    refine wpAny_bind ((PySem.W.looks_subIn K0 e).here ?_)
    simp only [Bool.false_eq_true, if_false]
    refine wpAny_bind (wpAny_mono one (fun r s' z => ?_) fun _ _ e => e)
    obtain ⟨v, rfl, hq⟩ := z
    exact wpAny_pure hq
  · refine wpAny_bind (wpAny_pure ?_)
    simp only [Bool.false_eq_true, if_false]
    refine wpAny_bind (wpAny_mono one (fun r s' z => ?_) fun _ _ e => e)
    obtain ⟨v, rfl, hq⟩ := z
    exact wpAny_pure hq
/-! ### str(x) by an own __str__ -/
def rStrO (C : Addr) (sp : Sp) (E : XK) : List V → Hp → VK → Prop := fun xs H Q => ∃ a dx fs, xs = [.ref a] ∧ H a = some (.ins C dx fs) ∧ sp [.ref a] H (fun v H' => ∃ z, v = .str z ∧ Q (.str z) H') E
theorem call_strO (F : FnOk X.prog X.w X.K X.mg X.base CX n f fd ps sp) (hs : PySem.W.findIn X.K (.ref C) "__str__" = some (some (.ref f))) (hf : PySem.W.isFn X.K (.ref f) = true) (hb : Binds X.K fd ps []) (hx : Passes CX X E)
    (hr : Room (n + 2) X.A) : CallR X (.type "str") (rStrO C sp E) := by
  intro pins s σ H xs us Q I r hq
  obtain ⟨a, dx, fs, rfl, ha, q⟩ := hq
  obtain ⟨u, rfl, rx⟩ : ∃ u, us = [u] ∧ RelV (.ref a) u := by
    cases r with
    | cons r rr => cases rr; exact ⟨_, rfl, r⟩
  cases (show u = Value.ref a from rx)
  obtain ⟨mA, J, _⟩ := ins_get I.hok ha
  obtain ⟨od, J, _⟩ := J.look
  have hr2 : Room n X.A.in1.in1 := hr.in1.in1
  have hu : X.A.in1.in1.units < cLine := Nat.lt_of_succ_lt (hu_of hr2)
  refine PySem.W.kso_call hu I.kIn J hs hf ?_
  refine wpAny_mono (run_sub F hb hx (A := X.A.in1.in1) ⟨hr2, rfl⟩ I (.cons rx .nil) q) (fun r s' hz => ?_) fun _ _ z => z
  obtain ⟨z, H', I', rz, x, rfl, qb⟩ := hz
  obtain ⟨t, e⟩ := (show ∃ t, r = Value.str x t from rz)
  cases e
  exact ⟨.str x, H', I', ⟨t, rfl⟩, qb⟩
/-! ### // by a number of either sign -/
def CDivNW (_ j : Int) : Prop := j ≠ 0 ∧ j.natAbs.log2 < 9000
theorem op_fdivNW : OpR X (binaryOp .FloorDiv) (rI CDivNW fun i j => .int (i.fdiv j)) := opI fun _ _ _ _ _ _ _ hc q => floordiv_int hc.1 q (.inl (PyProof.noPylong_of_log2 hc.2))
end
end TCA
/-! The mathematics, in plain Lean. -/
namespace TCM
/-! ### the greatest common divisor, by steps with Python's remainder -/
theorem gcd_fmod (a b : Int) : Int.gcd b (a.fmod b) = Int.gcd a b := by
  have e : a.fmod b = a - b * a.fdiv b := by
    have := Int.fmod_add_mul_fdiv a b
    omega
  rw [e, Int.gcd_comm a b]
  apply Nat.dvd_antisymm
  · refine Int.dvd_gcd (Int.gcd_dvd_left ..) ?_
    have h1 : ((Int.gcd b (a - b * a.fdiv b) : Nat) : Int) ∣ b := Int.gcd_dvd_left ..
    have h2 : ((Int.gcd b (a - b * a.fdiv b) : Nat) : Int) ∣ a - b * a.fdiv b := Int.gcd_dvd_right ..
    have h3 := Int.dvd_add h2 (Int.dvd_mul_of_dvd_left (c := a.fdiv b) h1)
    have e2 : a - b * a.fdiv b + b * a.fdiv b = a := by omega
    rw [e2] at h3
    exact h3
  · refine Int.dvd_gcd (Int.gcd_dvd_left ..) ?_
    have h1 : ((Int.gcd b a : Nat) : Int) ∣ b := Int.gcd_dvd_left ..
    have h2 : ((Int.gcd b a : Nat) : Int) ∣ a := Int.gcd_dvd_right ..
    exact Int.dvd_sub h2 (Int.dvd_mul_of_dvd_left (c := a.fdiv b) h1)
theorem fmod_lt (a b : Int) (h : b ≠ 0) : (a.fmod b).natAbs < b.natAbs := by
  rcases Int.lt_or_gt_of_ne h with hb | hb
  · have h1 : a.fmod b = a % b + if 0 ≤ b ∨ b ∣ a then 0 else b := Int.fmod_eq_emod
    have := Int.emod_nonneg a h
    have := Int.emod_lt_of_pos a (b := -b) (by omega)
    rw [Int.emod_neg] at this
    rw [h1]
    split
    · omega
    · rename_i z
      have : a % b ≠ 0 := fun e => z (.inr (Int.dvd_of_emod_eq_zero e))
      omega
  · have h1 := Int.fmod_nonneg_of_pos a hb
    have h2 := Int.fmod_lt_of_pos a hb
    omega
theorem abs_eq (i : Int) : (if i < 0 then -i else i) = ((i.natAbs : Nat) : Int) := by
  split <;> omega
/-! ### a fraction in lowest terms -/
def sgn (t b : Int) : Int := if b < 0 then -((Int.gcd t b : Nat) : Int) else ((Int.gcd t b : Nat) : Int)
def low (t b : Int) : Int × Int := (t.fdiv (sgn t b), b.fdiv (sgn t b))
/-- as the law says it -/
def lowL (t b : Int) : Int × Int := if 0 < b then (t.fdiv ((Int.gcd t b : Nat) : Int), b.fdiv ((Int.gcd t b : Nat) : Int)) else ((-t).fdiv ((Int.gcd t b : Nat) : Int), (-b).fdiv ((Int.gcd t b : Nat) : Int))
theorem low_eq (t b : Int) (h : b ≠ 0) : low t b = lowL t b := by
  unfold low lowL sgn
  by_cases hb : b < 0
  · rw [if_pos hb, if_neg (by omega)]
    have e1 := Int.neg_fdiv_neg (-t) ((Int.gcd t b : Nat) : Int)
    have e2 := Int.neg_fdiv_neg (-b) ((Int.gcd t b : Nat) : Int)
    rw [Int.neg_neg] at e1 e2
    rw [e1, e2]
  · rw [if_neg hb, if_pos (by omega)]
theorem gcd_pos (t b : Int) (h : b ≠ 0) : 0 < Int.gcd t b := by
  have : Int.gcd t b ≠ 0 := fun e => h (Int.gcd_eq_zero_iff.mp e).2
  omega
theorem gcd_le (t b : Int) (h : b ≠ 0) : Int.gcd t b ≤ b.natAbs := by
  show Nat.gcd t.natAbs b.natAbs ≤ b.natAbs
  exact Nat.gcd_le_right _ (by omega)
theorem sgn_ne (t b : Int) (h : b ≠ 0) : sgn t b ≠ 0 := by
  have := gcd_pos t b h
  unfold sgn
  split <;> omega
theorem sgn_abs (t b : Int) : (sgn t b).natAbs = Int.gcd t b := by
  unfold sgn
  split <;> omega
/-- the quotients are no larger -/
theorem fdiv_abs (t d : Int) (h : d ≠ 0) (hd : d ∣ t) : (t.fdiv d).natAbs ≤ t.natAbs := by
  obtain ⟨k, rfl⟩ := hd
  rw [Int.mul_fdiv_cancel_left k h, Int.natAbs_mul]
  exact Nat.le_mul_of_pos_left _ (by omega)
theorem sgn_dvd (t b : Int) : sgn t b ∣ t ∧ sgn t b ∣ b := by
  have h1 : ((Int.gcd t b : Nat) : Int) ∣ t := Int.gcd_dvd_left ..
  have h2 : ((Int.gcd t b : Nat) : Int) ∣ b := Int.gcd_dvd_right ..
  unfold sgn
  split
  · exact ⟨Int.neg_dvd.mpr h1, Int.neg_dvd.mpr h2⟩
  · exact ⟨h1, h2⟩
theorem low_abs (t b : Int) (h : b ≠ 0) : (low t b).1.natAbs ≤ t.natAbs ∧ (low t b).2.natAbs ≤ b.natAbs :=
  ⟨fdiv_abs t _ (sgn_ne t b h) (sgn_dvd t b).1, fdiv_abs b _ (sgn_ne t b h) (sgn_dvd t b).2⟩
theorem low_pos (t b : Int) (h : b ≠ 0) : 0 < (low t b).2 := by
  obtain ⟨k, hk⟩ := (sgn_dvd t b).2
  have hs := sgn_ne t b h
  have e : (low t b).2 = k := by
    show b.fdiv (sgn t b) = k
    rw [hk, ← hk]
    have e2 : b.fdiv (sgn t b) = (sgn t b * k).fdiv (sgn t b) := by rw [← hk]
    rw [e2]
    exact Int.mul_fdiv_cancel_left k hs
  rw [e]
  have g0 := gcd_pos t b h
  unfold sgn at hk
  by_cases hb : b < 0
  · rw [if_pos hb] at hk
    rcases Int.lt_trichotomy k 0 with z | z | z
    · exfalso
      have := Int.mul_nonneg_of_nonpos_of_nonpos (a := -((Int.gcd t b : Nat) : Int)) (b := k) (by omega) (by omega)
      omega
    · rw [z] at hk
      omega
    · exact z
  · rw [if_neg hb] at hk
    rcases Int.lt_trichotomy k 0 with z | z | z
    · exfalso
      have := Int.mul_nonneg (a := ((Int.gcd t b : Nat) : Int)) (b := -k) (by omega) (by omega)
      rw [Int.mul_neg] at this
      omega
    · rw [z] at hk
      omega
    · exact z
theorem low_one (t : Int) : low t 1 = (t, 1) := by
  unfold low sgn
  rw [if_neg (by decide), Int.gcd_one]
  show (t.fdiv 1, (1 : Int).fdiv 1) = (t, 1)
  rw [Int.fdiv_one]
  rfl
/-! ### squares taken out -/
/-- while n % (p * p) == 0: n //= p * p; o *= p -/
def whl : Nat → Int → Int → Int → Int × Int
  | 0, _, n, o => (n, o)
  | k + 1, p, n, o => if n % (p * p) = 0 then whl k p (n / (p * p)) (o * p) else (n, o)
/-- as squares_out goes on: over the primes, until 1 is left: (outside, inside, rest) -/
def sqL : List Int → Int → Int → Int → Int × Int × Int
  | [], n, o, i => (o, i, n)
  | p :: ps, n, o, i => if n = 1 then (o, i, n) else
    if (whl 10 p n o).1 % p = 0 then sqL ps ((whl 10 p n o).1 / p) (whl 10 p n o).2 (i * p) else sqL ps (whl 10 p n o).1 (whl 10 p n o).2 i
/-- as the law goes on: over all numbers -/
def fr : Nat → Int → Int → Int → Int × Int
  | 0, _, n, s => (s, n)
  | k + 1, p, n, s => if p * p ≤ n then fr k (p + 1) (whl 10 p n s).1 (whl 10 p n s).2 else (s, n)
theorem sq_div {n q : Int} (h0 : 0 < n) (hq : 4 ≤ q) (h : n % q = 0) : 0 < n / q ∧ n / q * 4 ≤ n ∧ n / q < n := by
  have e := Int.mul_ediv_add_emod n q
  rw [h, Int.add_zero] at e
  have h1 : 0 < n / q := by
    rcases Int.lt_or_le 0 (n / q) with z | z
    · exact z
    · have := Int.mul_le_mul_of_nonneg_left z (show 0 ≤ q by omega)
      rw [Int.mul_zero] at this
      omega
  have h2 : n / q * 4 ≤ n / q * q := Int.mul_le_mul_of_nonneg_left hq (by omega)
  rw [Int.mul_comm q] at e
  exact ⟨h1, by omega, by omega⟩
theorem pp4 {p : Int} (h : 2 ≤ p) : 4 ≤ p * p := by
  have := Int.mul_le_mul h h (by omega) (by omega)
  omega
theorem whl_ok : ∀ (k : Nat) (p n o : Int), 2 ≤ p → 0 < n → 0 < (whl k p n o).1 ∧ (whl k p n o).1 ≤ n
  | 0, p, n, o, _, h => ⟨h, Int.le_refl _⟩
  | k + 1, p, n, o, hp, h => by
    unfold whl
    split
    · rename_i z
      obtain ⟨a, b, c⟩ := sq_div h (pp4 hp) z
      obtain ⟨d, e⟩ := whl_ok k p (n / (p * p)) (o * p) hp a
      exact ⟨d, by omega⟩
    · exact ⟨h, Int.le_refl _⟩
/-- the loop's measure: whl with more fuel is the same -/
theorem whl_fuel : ∀ (k j : Nat) (p n o : Int), 2 ≤ p → 0 < n → n < 4 ^ k → whl (k + j) p n o = whl k p n o
  | 0, j, p, n, o, _, h, h2 => by
    have : n < 1 := h2
    omega
  | k + 1, j, p, n, o, hp, h, h2 => by
    rw [Nat.add_right_comm]
    show (if n % (p * p) = 0 then whl (k + j) p (n / (p * p)) (o * p) else (n, o)) = (if n % (p * p) = 0 then whl k p (n / (p * p)) (o * p) else (n, o))
    split
    · rename_i z
      obtain ⟨a, b, c⟩ := sq_div h (pp4 hp) z
      exact whl_fuel k j p _ _ hp a (by
        have e : (4 : Int) ^ (k + 1) = 4 ^ k * 4 := Int.pow_succ ..
        omega)
    · rfl
def primes : List Int := [2, 3, 5, 7, 11, 13, 17, 19, 23, 29, 31, 37, 41, 43, 47, 53, 59, 61, 67, 71, 73, 79, 83, 89, 97, 101, 103, 107, 109, 113, 127, 131, 137, 139, 149, 151, 157, 163, 167, 173, 179, 181, 191, 193, 197, 199, 211, 223, 227, 229, 233, 239, 241, 251, 257, 263, 269, 271, 277, 281, 283, 293, 307, 311, 313, 317, 331, 337, 347, 349, 353, 359, 367, 373, 379, 383, 389, 397, 401, 409, 419, 421, 431, 433, 439, 443, 449, 457, 461, 463, 467, 479, 487, 491, 499, 503, 509, 521, 523, 541, 547, 557, 563, 569, 571, 577, 587, 593, 599, 601, 607, 613, 617, 619, 631, 641, 643, 647, 653, 659, 661, 673, 677, 683, 691, 701, 709, 719, 727, 733, 739, 743, 751, 757, 761, 769, 773, 787, 797, 809, 811, 821, 823, 827, 829, 839, 853, 857, 859, 863, 877, 881, 883, 887, 907, 911, 919, 929, 937, 941, 947, 953, 967, 971, 977, 983, 991, 997]
def sqOut (n : Int) : Int × Int × Int := if n = 0 then (0, 1, 1) else sqL primes n 1 1
def free (n : Int) : Int × Int := fr 1000 2 n 1
/-- the roots that the law takes -/
def chk (r : Int) : Bool := match sqOut r, free r with
  | (o, i, m), (s, f) => decide (m = 1) && (decide (0 ≤ o) && (decide (o ≤ 1000) && (decide (1 ≤ i) && (decide (i ≤ 1000000) && (decide (r = 0) || (decide (0 < o) && (decide (s = o) && decide (f = i))))))))
def some11 : List Int := [0, 1, 4, 12, 997, 997 * 997, 2 ^ 19, 510510, 720720, 1000000, 30 * 30 * 7]
theorem chk_11 : some11.all chk = true := by decide +kernel
theorem chk_900 : (List.range 900).all (fun k => chk (1 + (k : Int))) = true := by decide +kernel
def Ok (r : Int) : Prop := 0 ≤ r ∧ r ≤ 1000000 ∧ chk r = true
theorem ok_11 {r : Int} (h : r ∈ some11) : Ok r := by
  refine ⟨?_, ?_, List.all_eq_true.mp chk_11 r h⟩
  · revert r; decide
  · revert r; decide
theorem ok_900 {d : Int} (h0 : 0 ≤ d) (h1 : d < 900) : Ok (1 + d) := by
  refine ⟨by omega, by omega, ?_⟩
  have := List.all_eq_true.mp chk_900 d.toNat (List.mem_range.mpr (by omega))
  rw [Int.toNat_of_nonneg h0] at this
  exact this
theorem Ok.all {r : Int} (h : Ok r) : (sqOut r).2.2 = 1 ∧ 0 ≤ (sqOut r).1 ∧ (sqOut r).1 ≤ 1000 ∧ 1 ≤ (sqOut r).2.1 ∧ (sqOut r).2.1 ≤ 1000000 ∧ (r ≠ 0 → 0 < (sqOut r).1 ∧ free r = ((sqOut r).1, (sqOut r).2.1)) := by
  obtain ⟨_, _, h⟩ := h
  unfold chk at h
  generalize sqOut r = a at h ⊢
  generalize free r = b at h ⊢
  obtain ⟨o, i, m⟩ := a
  obtain ⟨s, f⟩ := b
  simp only [Bool.and_eq_true, Bool.or_eq_true, decide_eq_true_eq] at h
  obtain ⟨h1, h2, h3, h4, h5, h6⟩ := h
  refine ⟨h1, h2, h3, h4, h5, fun hr => ?_⟩
  rcases h6 with h6 | ⟨h6, h7, h8⟩
  · exact absurd h6 hr
  · exact ⟨h6, by rw [h7, h8]⟩
/-- what exact comes to: no part, or one -/
def ex (top bottom root : Int) : Option (Int × Int × Int) :=
  if top * (sqOut root).1 = 0 then none else some ((sqOut root).2.1, (low (top * (sqOut root).1) bottom).1, (low (top * (sqOut root).1) bottom).2)
/-- what is due, as the law says it -/
def due (up under r : Int) : Option (Int × Int × Int) :=
  if up = 0 ∨ r = 0 then none else some ((free r).2, (lowL (up * (free r).1) under).1, (lowL (up * (free r).1) under).2)
theorem ex_due {t b r : Int} (hb : b ≠ 0) (h : Ok r) : ex t b r = due t b r := by
  obtain ⟨h1, h2, h3, h4, h5, h6⟩ := h.all
  unfold ex due
  by_cases hr : r = 0
  · subst hr
    rw [if_pos (show t * (sqOut 0).1 = 0 from Int.mul_zero _), if_pos (Or.inr rfl)]
  · obtain ⟨h7, h8⟩ := h6 hr
    rw [h8, ← low_eq _ _ hb]
    by_cases ht : t = 0
    · subst ht
      rw [if_pos (Int.zero_mul _), if_pos (Or.inl rfl)]
    · rw [if_neg (show ¬ t * (sqOut r).1 = 0 from fun e => by
        rcases Int.mul_eq_zero.mp e with e | e <;> omega), if_neg (show ¬ (t = 0 ∨ r = 0) by omega)]
theorem ok_one : Ok 1 := ok_11 (by decide)
theorem sq_one : sqOut 1 = (1, 1, 1) := by decide +kernel
theorem ex_one (t : Int) : ex t 1 1 = if t = 0 then none else some (1, t, 1) := by
  unfold ex
  rw [sq_one]
  show (if t * 1 = 0 then none else some ((1 : Int), (low (t * 1) 1).1, (low (t * 1) 1).2)) = _
  rw [Int.mul_one, low_one]
theorem ex_succ (t : Int) : ex t 1 1 ≠ ex (t + 1) 1 1 := by
  rw [ex_one, ex_one]
  split <;> split
  · omega
  · simp
  · simp
  · simp only [ne_eq, Option.some.injEq, Prod.mk.injEq, not_and]
    omega
end TCM
/-! Sums of fractions times roots, as lists of (root, fraction). -/
namespace TCR
open TCM
/-! ### fractions -/
theorem low_rat (t b : Int) (h : b ≠ 0) : low t b = ((Rat.divInt t b).num, ((Rat.divInt t b).den : Int)) := by
  have gp := gcd_pos t b h
  have e1 : (Rat.divInt t b).num = b.sign * t / ((b.gcd t : Nat) : Int) := Rat.num_divInt t b
  have e2 : (Rat.divInt t b).den = b.natAbs / b.gcd t := by rw [Rat.den_divInt, if_neg h]
  rw [e1, e2, Int.gcd_comm b t]
  obtain ⟨k, hk⟩ : ((Int.gcd t b : Nat) : Int) ∣ t := Int.gcd_dvd_left ..
  obtain ⟨m, hm⟩ : ((Int.gcd t b : Nat) : Int) ∣ b := Int.gcd_dvd_right ..
  have g0 : ((Int.gcd t b : Nat) : Int) ≠ 0 := by omega
  have x1 : low t b = (if b < 0 then (-k, -m) else (k, m)) := by
    unfold low sgn
    by_cases hb : b < 0
    · rw [if_pos hb, if_pos hb]
      have a1 : t.fdiv (-((Int.gcd t b : Nat) : Int)) = -k := by
        have z : t = (-((Int.gcd t b : Nat) : Int)) * (-k) := by rw [Int.neg_mul_neg]; exact hk
        have z2 := Int.mul_fdiv_cancel_left (-k) (show (-((Int.gcd t b : Nat) : Int)) ≠ 0 by omega)
        rw [← z] at z2
        exact z2
      have a2 : b.fdiv (-((Int.gcd t b : Nat) : Int)) = -m := by
        have z : b = (-((Int.gcd t b : Nat) : Int)) * (-m) := by rw [Int.neg_mul_neg]; exact hm
        have z2 := Int.mul_fdiv_cancel_left (-m) (show (-((Int.gcd t b : Nat) : Int)) ≠ 0 by omega)
        rw [← z] at z2
        exact z2
      rw [a1, a2]
    · rw [if_neg hb, if_neg hb]
      have a1 : t.fdiv ((Int.gcd t b : Nat) : Int) = k := by
        have z2 := Int.mul_fdiv_cancel_left k g0
        rw [← hk] at z2
        exact z2
      have a2 : b.fdiv ((Int.gcd t b : Nat) : Int) = m := by
        have z2 := Int.mul_fdiv_cancel_left m g0
        rw [← hm] at z2
        exact z2
      rw [a1, a2]
  rw [x1]
  have y2 : ((b.natAbs / Int.gcd t b : Nat) : Int) = (m.natAbs : Int) := by
    have : b.natAbs = Int.gcd t b * m.natAbs := by
      have z := congrArg Int.natAbs hm
      rw [Int.natAbs_mul] at z
      simpa using z
    rw [this, Nat.mul_div_cancel_left _ gp]
  have y1 : b.sign * t / ((Int.gcd t b : Nat) : Int) = b.sign * k := by
    have : b.sign * t = ((Int.gcd t b : Nat) : Int) * (b.sign * k) := by
      rw [Int.mul_left_comm, ← hk]
    rw [this, Int.mul_ediv_cancel_left _ g0]
  rw [y1, y2]
  have gn : (0 : Int) < ((Int.gcd t b : Nat) : Int) := by omega
  by_cases hb : b < 0
  · rw [if_pos hb, Int.sign_eq_neg_one_of_neg hb]
    have : m < 0 := by
      rcases Int.lt_or_le m 0 with z | z
      · exact z
      · have := Int.mul_nonneg (Int.le_of_lt gn) z
        omega
    rw [Int.neg_mul, Int.one_mul]
    congr 1
    omega
  · rw [if_neg hb, Int.sign_eq_one_of_pos (by omega)]
    have : 0 ≤ m := by
      rcases Int.lt_or_le m 0 with z | z
      · have := Int.mul_nonneg (Int.le_of_lt gn) (show 0 ≤ -m by omega)
        rw [Int.mul_neg] at this
        omega
      · exact z
    rw [Int.one_mul]
    congr 1
    omega
theorem lowL_rat (t b : Int) (h : b ≠ 0) : lowL t b = ((Rat.divInt t b).num, ((Rat.divInt t b).den : Int)) := by
  rw [← low_eq t b h, low_rat t b h]
/-- the sum as sum_in_lowest makes it -/
theorem sum_low (a b : Rat) :
    let g := Nat.gcd a.den b.den
    let num := a.num * ((b.den / g : Nat) : Int) + b.num * ((a.den / g : Nat) : Int)
    let l := Nat.gcd num.natAbs g
    (a + b).num = num / (l : Int) ∧ (a + b).den = (a.den / g) * (b.den / l) ∧ 0 < g ∧ 0 < l ∧ g ∣ a.den ∧ g ∣ b.den ∧ (l : Int) ∣ num ∧ l ∣ b.den := by
  intro g num l
  have ga : g ∣ a.den := Nat.gcd_dvd_left ..
  have gb : g ∣ b.den := Nat.gcd_dvd_right ..
  have g0 : 0 < g := Nat.gcd_pos_of_pos_left _ a.den_pos
  have l0 : 0 < l := Nat.gcd_pos_of_pos_right _ g0
  have lb : l ∣ b.den := Nat.dvd_trans (Nat.gcd_dvd_right ..) gb
  have aux : Nat.gcd num.natAbs g = Nat.gcd num.natAbs ((a.den / g) * b.den) := Rat.add.aux a b rfl rfl rfl
  have dn : (a.den / g) * b.den ≠ 0 := by
    have h1 : 0 < a.den / g := Nat.div_pos (Nat.le_of_dvd a.den_pos ga) g0
    exact Nat.ne_of_gt (Nat.mul_pos h1 b.den_pos)
  have es : a + b = mkRat num ((a.den / g) * b.den) := by
    rw [Rat.add_def' a b]
    rw [Rat.mkRat_eq_iff (Nat.mul_ne_zero a.den_nz b.den_nz) dn]
    obtain ⟨u, hu⟩ := ga
    obtain ⟨v, hv⟩ := gb
    have u1 : a.den / g = u := by rw [hu]; exact Nat.mul_div_cancel_left _ g0
    have v1 : b.den / g = v := by rw [hv]; exact Nat.mul_div_cancel_left _ g0
    show _ = (a.num * ((b.den / g : Nat) : Int) + b.num * ((a.den / g : Nat) : Int)) * _
    rw [u1, v1, hu, hv]
    push_cast
    grind
  have en : mkRat num ((a.den / g) * b.den) = Rat.normalize num ((a.den / g) * b.den) dn := by
    rw [Rat.normalize_eq_mkRat]
  have en2 := Rat.normalize_eq (num := num) dn
  refine ⟨?_, ?_, g0, l0, ga, gb, ?_, lb⟩
  · rw [es, en, en2]
    show num / ((Nat.gcd num.natAbs ((a.den / g) * b.den) : Nat) : Int) = num / ((Nat.gcd num.natAbs g : Nat) : Int)
    rw [aux]
  · rw [es, en, en2]
    show (a.den / g) * b.den / (Nat.gcd num.natAbs ((a.den / g) * b.den)) = (a.den / g) * (b.den / l)
    rw [← aux, Nat.mul_div_assoc _ lb]
  · exact Int.ofNat_dvd_left.mpr (Nat.gcd_dvd_left ..)
/-! ### sizes -/
def Sz (B : Nat) (q : Rat) : Prop := q.num.natAbs < 2 ^ B ∧ q.den < 2 ^ B
theorem Sz.mono {B C : Nat} {q : Rat} (h : Sz B q) (hc : B ≤ C) : Sz C q := by
  have := Nat.pow_le_pow_right (show 0 < 2 by decide) hc
  exact ⟨Nat.lt_of_lt_of_le h.1 this, Nat.lt_of_lt_of_le h.2 this⟩
theorem Sz.neg {B : Nat} {q : Rat} (h : Sz B q) : Sz B (-q) := by
  refine ⟨?_, ?_⟩
  · rw [Rat.neg_num, Int.natAbs_neg]
    exact h.1
  · rw [Rat.neg_den]
    exact h.2
theorem Sz.zero {B : Nat} (h : 0 < B) : Sz B 0 := ⟨Nat.pow_pos (by decide), Nat.one_lt_two_pow (by omega)⟩
theorem Sz.add {A B : Nat} {p q : Rat} (h : Sz A p) (k : Sz B q) : Sz (A + B + 1) (p + q) := by
  obtain ⟨e1, e2, g0, l0, ga, gb, ln, lb⟩ := sum_low p q
  have b1 : q.den / Nat.gcd p.den q.den ≤ q.den := Nat.div_le_self ..
  have a1 : p.den / Nat.gcd p.den q.den ≤ p.den := Nat.div_le_self ..
  have P1 : p.num.natAbs * q.den < 2 ^ A * 2 ^ B := Nat.mul_lt_mul'' h.1 k.2
  have P2 : q.num.natAbs * p.den < 2 ^ A * 2 ^ B := by
    rw [Nat.mul_comm (2 ^ A)]
    exact Nat.mul_lt_mul'' k.1 h.2
  have P3 : p.den * q.den < 2 ^ A * 2 ^ B := Nat.mul_lt_mul'' h.2 k.2
  have ep : 2 ^ (A + B + 1) = 2 ^ A * 2 ^ B * 2 := by rw [Nat.pow_succ, Nat.pow_add]
  refine ⟨?_, ?_⟩
  · rw [e1]
    have d1 := Int.natAbs_ediv_le_natAbs (p.num * ((q.den / Nat.gcd p.den q.den : Nat) : Int) + q.num * ((p.den / Nat.gcd p.den q.den : Nat) : Int)) ((Nat.gcd (p.num * ((q.den / Nat.gcd p.den q.den : Nat) : Int) + q.num * ((p.den / Nat.gcd p.den q.den : Nat) : Int)).natAbs (Nat.gcd p.den q.den) : Nat) : Int)
    have d2 := Int.natAbs_add_le (p.num * ((q.den / Nat.gcd p.den q.den : Nat) : Int)) (q.num * ((p.den / Nat.gcd p.den q.den : Nat) : Int))
    rw [Int.natAbs_mul, Int.natAbs_mul] at d2
    have m1 : p.num.natAbs * ((q.den / Nat.gcd p.den q.den : Nat) : Int).natAbs ≤ p.num.natAbs * q.den := Nat.mul_le_mul (Nat.le_refl _) (by rw [Int.natAbs_natCast]; exact b1)
    have m2 : q.num.natAbs * ((p.den / Nat.gcd p.den q.den : Nat) : Int).natAbs ≤ q.num.natAbs * p.den := Nat.mul_le_mul (Nat.le_refl _) (by rw [Int.natAbs_natCast]; exact a1)
    omega
  · rw [e2]
    have m1 := Nat.mul_le_mul a1 (Nat.div_le_self q.den (Nat.gcd (p.num * ((q.den / Nat.gcd p.den q.den : Nat) : Int) + q.num * ((p.den / Nat.gcd p.den q.den : Nat) : Int)).natAbs (Nat.gcd p.den q.den)))
    omega
theorem Sz.divInt {B : Nat} {t b : Int} (h : b ≠ 0) (ht : t.natAbs < 2 ^ B) (hb : b.natAbs < 2 ^ B) : Sz B (Rat.divInt t b) := by
  obtain ⟨l1, l2⟩ := low_abs t b h
  rw [low_rat t b h] at l1 l2
  exact ⟨Nat.lt_of_le_of_lt l1 ht, Nat.lt_of_le_of_lt (by simpa using l2) hb⟩
/-! ### lists of roots and fractions -/
def val : List (Int × Rat) → Int → Rat
  | [], _ => 0
  | (a, q) :: L, r => if a = r then q else val L r
structure Canon (L : List (Int × Rat)) : Prop where
  srt : L.Pairwise (fun x y => x.1 < y.1)
  nz : ∀ x ∈ L, x.2 ≠ 0
theorem val_not : ∀ {L : List (Int × Rat)} {r : Int}, (∀ x ∈ L, x.1 ≠ r) → val L r = 0
  | [], _, _ => rfl
  | (a, q) :: L, r, h => by
    show (if a = r then q else val L r) = 0
    rw [if_neg (h _ (List.mem_cons_self ..)), val_not fun x hx => h x (List.mem_cons_of_mem _ hx)]
theorem Canon.tail {x : Int × Rat} {L : List (Int × Rat)} (c : Canon (x :: L)) : Canon L := ⟨(List.pairwise_cons.mp c.srt).2, fun y hy => c.nz y (List.mem_cons_of_mem _ hy)⟩
theorem Canon.mem {L : List (Int × Rat)} (c : Canon L) {x : Int × Rat} (h : x ∈ L) : val L x.1 = x.2 := by
  induction L with
  | nil => cases h
  | cons y L ih =>
    obtain ⟨a, q⟩ := y
    rcases List.mem_cons.mp h with e | e
    · subst e
      exact if_pos rfl
    · have lt := (List.pairwise_cons.mp c.srt).1 x e
      show (if a = x.1 then q else val L x.1) = x.2
      rw [if_neg (by simp at lt; omega), ih c.tail e]
theorem Canon.val_ne {L : List (Int × Rat)} (c : Canon L) {r : Int} : val L r ≠ 0 ↔ ∃ q, (r, q) ∈ L := by
  refine ⟨fun h => ?_, fun ⟨q, h⟩ => ?_⟩
  · rcases Classical.em (∃ q, (r, q) ∈ L) with z | z
    · exact z
    · exact absurd (val_not fun x hx e => z ⟨x.2, by rw [← e]; exact hx⟩) h
  · rw [c.mem h]
    exact c.nz _ h
theorem canon_eq : ∀ {L M : List (Int × Rat)}, Canon L → Canon M → (∀ r, val L r = val M r) → L = M
  | [], [], _, _, _ => rfl
  | [], y :: M, _, c, h => by
    have z := h y.1
    rw [c.mem (List.mem_cons_self ..)] at z
    exact absurd z.symm (c.nz y (List.mem_cons_self ..))
  | x :: L, [], c, _, h => by
    have z := h x.1
    rw [c.mem (List.mem_cons_self ..)] at z
    exact absurd z (c.nz x (List.mem_cons_self ..))
  | x :: L, y :: M, c, d, h => by
    have key : x.1 = y.1 := by
      have lx : ∀ z ∈ L, x.1 < z.1 := (List.pairwise_cons.mp c.srt).1
      have ly : ∀ z ∈ M, y.1 < z.1 := (List.pairwise_cons.mp d.srt).1
      rcases Int.lt_trichotomy x.1 y.1 with z | z | z
      · have e := h x.1
        rw [c.mem (List.mem_cons_self ..), val_not (L := y :: M) (fun w hw => by
          rcases List.mem_cons.mp hw with e | e
          · rw [e]
            omega
          · have := ly w e
            omega)] at e
        exact absurd e (c.nz x (List.mem_cons_self ..))
      · exact z
      · have e := h y.1
        rw [d.mem (List.mem_cons_self ..), val_not (L := x :: L) (fun w hw => by
          rcases List.mem_cons.mp hw with e | e
          · rw [e]
            omega
          · have := lx w e
            omega)] at e
        exact absurd e.symm (d.nz y (List.mem_cons_self ..))
    have v : x.2 = y.2 := by
      have e := h x.1
      rw [c.mem (List.mem_cons_self ..), key, d.mem (List.mem_cons_self ..)] at e
      exact e
    have exy : x = y := Prod.ext key v
    subst exy
    rw [canon_eq c.tail d.tail fun r => ?_]
    by_cases e : x.1 = r
    · have lx : ∀ z ∈ L, x.1 < z.1 := (List.pairwise_cons.mp c.srt).1
      have ly : ∀ z ∈ M, x.1 < z.1 := (List.pairwise_cons.mp d.srt).1
      rw [val_not (fun w hw => by have := lx w hw; omega), val_not (fun w hw => by have := ly w hw; omega)]
    · have z := h r
      obtain ⟨a, q⟩ := x
      have z2 : (if a = r then q else val L r) = (if a = r then q else val M r) := z
      rw [if_neg e, if_neg e] at z2
      exact z2
/-! ### from a sorted list of keys -/
def kept (g : Int → Rat) (ns : List Int) : List (Int × Rat) := (ns.filter fun r => decide (g r ≠ 0)).map fun r => (r, g r)
theorem val_kept (g : Int → Rat) : ∀ {ns : List Int} (r : Int), (r ∉ ns → g r = 0) → val (kept g ns) r = g r
  | [], r, h => (h (by simp)).symm
  | n :: ns, r, h => by
    unfold kept
    by_cases hn : g n ≠ 0
    · rw [List.filter_cons, if_pos (by simpa using hn), List.map_cons]
      show (if n = r then g n else val (kept g ns) r) = g r
      by_cases e : n = r
      · rw [if_pos e, e]
      · rw [if_neg e, val_kept g r fun z => h (by
          rw [List.mem_cons]
          rintro (w | w)
          · exact e w.symm
          · exact z w)]
    · rw [List.filter_cons, if_neg (by simpa using hn)]
      show val (kept g ns) r = g r
      by_cases e : n = r
      · subst e
        have e0 : g n = 0 := Classical.not_not.mp hn
        by_cases m : n ∈ ns
        · exact val_kept g n fun z => absurd m z
        · rw [e0]
          refine val_not fun x hx => ?_
          unfold kept at hx
          obtain ⟨s, hs, rfl⟩ := List.mem_map.mp hx
          intro z
          have : s = n := z
          subst this
          exact m (List.mem_filter.mp hs).1
      · exact val_kept g r fun z => h (by
          rw [List.mem_cons]
          rintro (w | w)
          · exact e w.symm
          · exact z w)
theorem canon_kept (g : Int → Rat) {ns : List Int} (nd : ns.Nodup) (srt : ns.Pairwise (· ≤ ·)) : Canon (kept g ns) := by
  refine ⟨?_, fun x hx => ?_⟩
  · unfold kept
    rw [List.pairwise_map]
    have lt : ns.Pairwise (fun a b => a < b) := (List.pairwise_and_iff.mpr ⟨srt, nd⟩).imp fun {a b} h => by
      have h1 : a ≤ b := h.1
      have h2 : a ≠ b := h.2
      omega
    exact lt.filter _
  · unfold kept at hx
    obtain ⟨r, hr, rfl⟩ := List.mem_map.mp hx
    simpa using (List.mem_filter.mp hr).2
theorem kept_len (g : Int → Rat) (ns : List Int) : (kept g ns).length ≤ ns.length := by
  unfold kept
  rw [List.length_map]
  exact List.length_filter_le ..
theorem kept_snoc (g : Int → Rat) (ns : List Int) (r : Int) : kept g (ns ++ [r]) = kept g ns ++ (if g r ≠ 0 then [(r, g r)] else []) := by
  unfold kept
  rw [List.filter_append, List.map_append]
  congr 1
  by_cases h : g r ≠ 0
  · rw [if_pos h, List.filter_cons, if_pos (by simpa using h)]
    rfl
  · rw [if_neg h, List.filter_cons, if_neg (by simpa using h)]
    rfl
theorem val_take {M : List (Int × Rat)} (c : Canon M) : ∀ {i : Nat} {x : Int × Rat} (s : Int), M[i]? = some x → val (M.take i) x.1 = 0 ∧ val (M.take (i + 1)) s = if s = x.1 then x.2 else val (M.take i) s := by
  induction M with
  | nil =>
    intro i x s h
    simp at h
  | cons y M ih =>
    intro i x s h
    obtain ⟨a, q⟩ := y
    cases i with
    | zero =>
      have e : (a, q) = x := Option.some.inj h
      subst e
      refine ⟨rfl, ?_⟩
      show (if a = s then q else 0) = if s = a then q else 0
      by_cases e : a = s
      · rw [if_pos e, if_pos e.symm]
      · rw [if_neg e, if_neg fun z => e z.symm]
    | succ i =>
      have h' : M[i]? = some x := h
      obtain ⟨h1, h2⟩ := ih c.tail s h'
      have lt : a < x.1 := (List.pairwise_cons.mp c.srt).1 x (List.mem_of_getElem? h')
      refine ⟨?_, ?_⟩
      · show (if a = x.1 then q else val (M.take i) x.1) = 0
        rw [if_neg (by omega), h1]
      · show (if a = s then q else val (M.take (i + 1)) s) = if s = x.1 then x.2 else (if a = s then q else val (M.take i) s)
        rw [h2]
        by_cases e : a = s
        · rw [if_pos e, if_neg (by omega), if_pos e]
        · rw [if_neg e, if_neg e]
theorem Sz.val {B : Nat} {L : List (Int × Rat)} (h0 : 0 < B) (h : ∀ x ∈ L, Sz B x.2) (r : Int) : Sz B (val L r) := by
  induction L with
  | nil => exact Sz.zero h0
  | cons y L ih =>
    obtain ⟨a, q⟩ := y
    show Sz B (if a = r then q else TCR.val L r)
    split
    · exact h _ (List.mem_cons_self ..)
    · exact ih fun x hx => h x (List.mem_cons_of_mem _ hx)
def negL (L : List (Int × Rat)) : List (Int × Rat) := L.map fun x => (x.1, -x.2)
theorem val_neg : ∀ (L : List (Int × Rat)) (r : Int), val (negL L) r = -val L r
  | [], r => by
    show (0 : Rat) = -0
    rfl
  | (a, q) :: L, r => by
    show (if a = r then -q else val (negL L) r) = -(if a = r then q else val L r)
    split
    · rfl
    · exact val_neg L r
theorem canon_neg {L : List (Int × Rat)} (c : Canon L) : Canon (negL L) := by
  refine ⟨?_, fun x hx => ?_⟩
  · unfold negL
    rw [List.pairwise_map]
    exact c.srt
  · obtain ⟨y, hy, rfl⟩ := List.mem_map.mp hx
    have z := c.nz y hy
    show -y.2 ≠ 0
    grind
theorem canon_one {r : Int} {q : Rat} (h : q ≠ 0) : Canon [(r, q)] := ⟨List.pairwise_singleton .., fun x hx => by rw [List.mem_singleton.mp hx]; exact h⟩
theorem canon_nil : Canon [] := ⟨List.Pairwise.nil, fun x hx => by cases hx⟩
end TCR
namespace TC
open PySem PySem.Spec PyProof.Rows L2 TCA
theorem iteNT {c A B : Prop} [Decidable c] (hc : ¬ c) (h : A) : if (!decide c) = true then A else B := by
  rw [decide_eq_false hc]
  exact iteT h
theorem iteD1 {c A B : Prop} [Decidable c] (hc : c) (h : A) : if decide c = true then A else B := by
  rw [decide_eq_true hc]
  exact iteT h
theorem iteD0 {c A B : Prop} [Decidable c] (hc : ¬ c) (h : B) : if decide c = true then A else B := by
  rw [decide_eq_false hc]
  exact iteF h
theorem ine {a b : Int} (h : a ≠ b) : ¬ (V.int a = V.int b) := fun e => h (V.int.inj e)
theorem same_upd {H : Hp} {p : Addr} {o : HO} (h : H p = none) : Same H (upd H p o) := fun b x e => by
  rw [upd_ne (ne_of_none e h)]
  exact e
section
variable {P : Program} {w : World} {K : PySem.W.Frag} {mg : Str → Option Value} {base : Heap} {f : Addr} {fd : FuncData}
/-! ### is_whole -/
def spWhole : Sp := fun vs H Q _ => ∃ n : Int, vs = [.int n] ∧ Q (.bl true) H
theorem scWhole : FnScope ["thing"] ["thing"] (defScope sWhole) := ⟨rfl, rfl, rfl, by decide +kernel, rfl, by decide +kernel, by decide +kernel⟩
theorem ok_whole (F : FnP K "is_whole" sWhole f fd) (gI : mg "isinstance" = none) (gi : mg "int" = none) (gb : mg "bool" = none) : FnOk P w K mg base CX0 1 f fd ["thing"] spWhole := by
  refine F.ok scWhole (fun vs H Q E h => ?_) (fun cdv A outer s H vs Q E hr h => ?_)
  · obtain ⟨n, rfl, _⟩ := h
    rfl
  · obtain ⟨n, rfl, q⟩ := h
    refine ⟨_, PSs.nox (pss_one (ps_ret (pe_and (pe_callB call_isi (by rfl) gI (by decide +kernel) (pa_cons (pv 0) (pa_cons (pe_bltn (v := .ty "int") (by rfl) gi (by decide +kernel) rfl) pa_nil)))
      (pe_one (pe_not (pe_callB call_isi (by rfl) gI (by decide +kernel) (pa_cons (pv 0) (pa_cons (pe_bltn (v := .ty "bool") (by rfl) gb (by decide +kernel) rfl) pa_nil)))))))), ?_⟩
    refine ⟨_, rfl, _, _, _, _, true, rfl, .ty "int", .base (.int n), kit_ty (by decide +kernel), true, rfl, iteT ?_⟩
    refine ⟨_, rfl, _, _, _, _, false, rfl, .ty "bool", .base (.int n), kit_ty (by decide +kernel), false, rfl, q⟩
/-! ### shared -/
def spShared : Sp := fun vs H Q _ => ∃ a b : Int, vs = [.int a, .int b] ∧ Q (.int ((Int.gcd a b : Nat) : Int)) H
theorem scShared : FnScope ["one", "other"] ["one", "other"] (defScope sShared) := ⟨rfl, rfl, rfl, by decide +kernel, rfl, by decide +kernel, by decide +kernel⟩
theorem ok_shared (F : FnP K "shared" sShared f fd) (gA : mg "abs" = none) : FnOk P w K mg base CX0 1 f fd ["one", "other"] spShared := by
  refine F.ok scShared (fun vs H Q E h => ?_) (fun cdv A outer s H vs Q E hr h => ?_)
  · obtain ⟨a, b, rfl, _⟩ := h
    rfl
  · obtain ⟨a, b, rfl, q⟩ := h
    refine ⟨_, PSs.nox (pss_cons (ps_while PassesOwn.never (pt_cmpR op_ne (pv 1) pe_int (nomark _))
        (pss_one (ps_par (i := 0) (j := 1) rfl scShared.nd rfl rfl (by decide) rfl rfl (pa_cons (pv 1) (pa_cons (pe_op op_modN (pv 0) (pv 1)) pa_nil)) (by rfl))))
      (pss_one (ps_ret (pe_callB call_abs (by rfl) gA (by decide +kernel) (pa_cons (pv 0) pa_nil))))), ?_⟩
    refine ⟨fun m σ H' => ∃ x y : Int, σ = [some (.int x), some (.int y)] ∧ H' = H ∧ Int.gcd x y = Int.gcd a b ∧ y.natAbs = m, ⟨_, a, b, rfl, rfl, rfl, rfl⟩, fun m σ H' hW => ?_⟩
    obtain ⟨x, y, rfl, rfl, eg, em⟩ := hW
    refine ⟨_, rfl, rfl, _, rfl, ?_⟩
    by_cases hy : y = 0
    · subst hy
      refine iteNS rfl ?_
      refine ⟨_, rfl, x, rfl, ?_⟩
      rw [TCM.abs_eq, ← show Int.gcd x 0 = x.natAbs from Int.gcd_zero_right x, eg]
      exact q
    · refine iteNT (ine hy) ?_
      refine ⟨fun σ' H'' => ∃ x' y' : Int, σ' = [some (.int x'), some (.int y')] ∧ H'' = H' ∧ Int.gcd x' y' = Int.gcd a b ∧ y'.natAbs < m, fun σ' H'' hN => ?_, ?_⟩
      · obtain ⟨x', y', e1, e2, e3, e4⟩ := hN
        exact ⟨_, e4, x', y', e1, e2, e3, rfl⟩
      · refine ⟨_, rfl, _, rfl, _, rfl, x, y, rfl, rfl, hy, _, _, rfl, y, x.fmod y, rfl, rfl, ?_, ?_⟩
        · rw [TCM.gcd_fmod, eg]
        · rw [← em]
          exact TCM.fmod_lt x y hy
/-! ### in_lowest -/
def spLowest : Sp := fun vs H Q _ => ∃ (t b : Int) (A : Nat), vs = [.int t, .int b] ∧ b ≠ 0 ∧ b.natAbs < 2 ^ A ∧ 0 < A ∧ A ≤ 8000 ∧ ∀ p, H p = none → Q (.ref p) (upd H p (.tup [.int (TCM.low t b).1, .int (TCM.low t b).2]))
theorem scLowest : FnScope ["top", "bottom", "common"] ["top", "bottom"] (defScope sLowest) := ⟨rfl, rfl, rfl, by decide +kernel, rfl, by decide +kernel, by decide +kernel⟩
theorem log_lt {d : Int} {n : Nat} (h : n ≤ 9000) (hn : 0 < n) (hd : d.natAbs < 2 ^ n) : d.natAbs.log2 < 9000 := Nat.lt_of_lt_of_le (PySem.Flt.log2_lt_of hn hd) h
theorem ok_lowest {fS : Addr} {fdS : FuncData} (F : FnP K "in_lowest" sLowest f fd) (GS : FnOk P w K mg base CX0 1 fS fdS ["one", "other"] spShared) (bS : L2.Binds K fdS ["one", "other"] []) (kS : PySem.W.keepIn K (.ref fS) = true) (gS : mg "shared" = some (.ref fS)) :
    FnOk P w K mg base CX0 2 f fd ["top", "bottom"] spLowest := by
  refine F.ok scLowest (fun vs H Q E h => ?_) (fun cdv A outer s H vs Q E hr h => ?_)
  · obtain ⟨a, b, _, rfl, _⟩ := h
    rfl
  · obtain ⟨t, b, Ab, rfl, hb, hz, hA0, hA8, q⟩ := h
    refine ⟨_, PSs.nox (pss_cons (ps_set (i := 2) scLowest.nd rfl (.inl rfl) (pe_call GS hr (by rfl) gS kS bS .nil pass0 (pa_cons (pv 0) (pa_cons (pv 1) pa_nil))))
      (pss_cons (ps_if (pt_cmpR op_lt (pv 1) pe_int (nomark _)) (pss_one (ps_set (i := 2) scLowest.nd rfl (.inl rfl) (pe_un un_neg (pv 2)))) pss_nil)
      (pss_one (ps_ret (pe_tup (pa_cons (pe_op op_fdivNW (pv 0) (pv 2)) (pa_cons (pe_op op_fdivNW (pv 1) (pv 2)) pa_nil))))))), ?_⟩
    refine ⟨_, rfl, _, rfl, t, b, rfl, ?_⟩
    have fin : ∀ σ : L2.St, σ = [some (.int t), some (.int b), some (.int (TCM.sgn t b))] → tRet (tTup (tCons (tOp (rI CDivNW fun i j => .int (i.fdiv j)) (tVar 0) (tVar 2)) (tCons (tOp (rI CDivNW fun i j => .int (i.fdiv j)) (tVar 1) (tVar 2)) tNil))) { nx := fun _ H' => Q .non H', rt := Q } σ H := by
      rintro σ rfl
      have hs : CDivNW t (TCM.sgn t b) := ⟨TCM.sgn_ne t b hb, log_lt (n := Ab) (by omega) hA0 (Nat.lt_of_le_of_lt (by rw [TCM.sgn_abs]; exact TCM.gcd_le t b hb) hz)⟩
      exact ⟨_, rfl, _, rfl, t, _, rfl, rfl, hs, _, rfl, _, rfl, b, _, rfl, rfl, hs, by show 2 ≤ sizeLine; decide, fun p hp => q p hp⟩
    refine ⟨_, rfl, b, 0, rfl, rfl, _, rfl, ?_⟩
    by_cases hb0 : b < 0
    · refine iteD1 hb0 ?_
      refine ⟨_, rfl, _, rfl, ?_⟩
      refine fin _ ?_
      show [some (V.int t), some (V.int b), some (V.int (-((Int.gcd t b : Nat) : Int)))] = _
      rw [show TCM.sgn t b = -((Int.gcd t b : Nat) : Int) from if_pos hb0]
    · refine iteD0 hb0 ?_
      refine fin _ ?_
      show [some (V.int t), some (V.int b), some (V.int ((Int.gcd t b : Nat) : Int))] = _
      rw [show TCM.sgn t b = ((Int.gcd t b : Nat) : Int) from if_neg hb0]
end
theorem primes_ok : ∀ p ∈ TCM.primes, 2 ≤ p ∧ p ≤ 997 := by decide
theorem pp_le {p : Int} {m : Int} (h : 2 ≤ p) (h2 : p ≤ m) : 4 ≤ p * p ∧ p * p ≤ m * m := ⟨TCM.pp4 h, Int.mul_le_mul h2 h2 (by omega) (by omega)⟩
/-- the inner loop's word: k more turns -/
def WInn (p n0 o0 n o : Int) (k : Nat) : Prop := 0 < n ∧ n ≤ 1000000 ∧ n < 4 ^ k ∧ TCM.whl k p n o = TCM.whl 10 p n0 o0
theorem WInn.start {p n o : Int} (h : 0 < n) (h2 : n ≤ 1000000) : WInn p n o n o 10 := ⟨h, h2, Int.lt_of_le_of_lt h2 (by decide), rfl⟩
theorem WInn.turn {p n0 o0 n o : Int} {k : Nat} (w : WInn p n0 o0 n o k) (hp : 2 ≤ p) (h : n % (p * p) = 0) : ∃ j, WInn p n0 o0 (n / (p * p)) (o * p) j ∧ (n / (p * p)).toNat < n.toNat := by
  obtain ⟨h0, h1, h2, h3⟩ := w
  obtain ⟨a, b, c⟩ := TCM.sq_div h0 (TCM.pp4 hp) h
  cases k with
  | zero =>
    have : n < 1 := h2
    omega
  | succ k =>
    refine ⟨k, ⟨a, by omega, ?_, ?_⟩, by omega⟩
    · have e : (4 : Int) ^ (k + 1) = 4 ^ k * 4 := Int.pow_succ ..
      omega
    · rw [← h3]
      show _ = (if n % (p * p) = 0 then TCM.whl k p (n / (p * p)) (o * p) else (n, o))
      rw [if_pos h]
theorem WInn.stop {p n0 o0 n o : Int} {k : Nat} (w : WInn p n0 o0 n o k) (h : ¬ n % (p * p) = 0) : TCM.whl 10 p n0 o0 = (n, o) := by
  obtain ⟨h0, h1, h2, h3⟩ := w
  rw [← h3]
  cases k with
  | zero => rfl
  | succ k =>
    show (if n % (p * p) = 0 then TCM.whl k p (n / (p * p)) (o * p) else (n, o)) = _
    rw [if_neg h]
theorem cmul_r {i j : Int} (h1 : -1000000 ≤ j) (h2 : j ≤ 1000000) : CMul i j := .inr ⟨by omega, by omega⟩
section
variable {P : Program} {w : World} {K : PySem.W.Frag} {mg : Str → Option Value} {base : Heap} {f : Addr} {fd : FuncData}
/-! ### squares_out -/
def spSquares : Sp := fun vs H Q _ => ∃ n : Int, vs = [.int n] ∧ 0 ≤ n ∧ n ≤ 1000000 ∧ ∀ p H', Same H H' → H p = none → H' p = some (.tup [.int (TCM.sqOut n).1, .int (TCM.sqOut n).2.1, .int (TCM.sqOut n).2.2]) → Q (.ref p) H'
theorem scSquares : FnScope ["number", "outside", "inside", "prime"] ["number"] (defScope sSquares) := ⟨rfl, rfl, rfl, by decide +kernel, rfl, by decide +kernel, by decide +kernel⟩
theorem ok_squares {aP : Addr} (F : FnP K "squares_out" sSquares f fd) (gP : mg "PRIMES" = some (.ref aP)) (hT : ∀ H, SqT K H aP (TCM.primes.map V.int)) : FnOk P w K mg base CX0 1 f fd ["number"] spSquares := by
  refine F.ok scSquares (fun vs H Q E h => ?_) (fun cdv A outer s H vs Q E hr h => ?_)
  · obtain ⟨a, rfl, _⟩ := h
    rfl
  · obtain ⟨n, rfl, h0, h1, q⟩ := h
    refine ⟨_, PSs.nox (pss_cons (ps_if (pt_cmpR op_eq (pv 0) pe_int (nomark _)) (pss_one (ps_ret (pe_tup (pa_cons pe_int (pa_cons pe_int (pa_cons pe_int pa_nil)))))) pss_nil)
      (pss_cons (ps_asg (pe_tup (pa_cons pe_int (pa_cons pe_int pa_nil))) (pg_tup rfl (pgs_cons (pg_name (i := 1) scSquares.nd rfl (.inl rfl)) (pgs_cons (pg_name (i := 2) scSquares.nd rfl (.inl rfl)) pgs_nil))))
      (pss_cons (ps_for PassesOwn.never rfl (pi_tup (pe_glob (v := .ref aP) (by rfl) gP rfl)) (pg_name (i := 3) scSquares.nd rfl (.inl rfl))
        (pss_cons (ps_if (pt_cmpR op_eq (pv 0) pe_int (nomark _)) (pss_one ps_break) pss_nil)
        (pss_cons (ps_while PassesOwn.never (pt_cmpR op_eq (pe_op op_mod (pv 0) (pe_op op_mul (pv 3) (pv 3))) pe_int (nomark _))
          (pss_cons (ps_aug (i := 0) scSquares.nd rfl (.inl rfl) (pe_op op_mul (pv 3) (pv 3)) iop_fdiv) (pss_one (ps_aug (i := 1) scSquares.nd rfl (.inl rfl) (pv 3) iop_mul))))
        (pss_one (ps_if (pt_cmpR op_eq (pe_op op_mod (pv 0) (pv 3)) pe_int (nomark _))
          (pss_cons (ps_aug (i := 0) scSquares.nd rfl (.inl rfl) (pv 3) iop_fdiv) (pss_one (ps_aug (i := 2) scSquares.nd rfl (.inl rfl) (pv 3) iop_mul))) pss_nil)))))
      (pss_one (ps_ret (pe_tup (pa_cons (pv 1) (pa_cons (pv 2) (pa_cons (pv 0) pa_nil))))))))), ?_⟩
    refine ⟨_, rfl, rfl, _, rfl, ?_⟩
    by_cases hn : n = 0
    · subst hn
      refine iteD1 rfl ?_
      exact ⟨by show 3 ≤ sizeLine; decide, fun p hp => q p _ (same_upd hp) hp upd_same⟩
    · refine iteD0 (ine hn) ?_
      have eq0 : TCM.sqOut n = TCM.sqL TCM.primes n 1 1 := if_neg hn
      refine ⟨by show 2 ≤ sizeLine; decide, fun c hc => ?_⟩
      refine ⟨c, _, rfl, SqT.of upd_same, rfl, _, _, rfl, _, _, rfl, rfl, ?_⟩
      have sm1 : Same H (upd H c (.tup [.int 1, .int 1])) := same_upd hc
      replace q : ∀ p, (upd H c (.tup [.int 1, .int 1])) p = none → Q (.ref p) (upd (upd H c (.tup [.int 1, .int 1])) p (.tup [.int (TCM.sqOut n).1, .int (TCM.sqOut n).2.1, .int (TCM.sqOut n).2.2])) := fun p hp => q p _ (sm1.trans (same_upd hp)) (sm1.free hp) upd_same
      generalize upd H c (.tup [.int 1, .int 1]) = H at q ⊢
      refine ⟨aP, rfl, ⟨_, hT H⟩, for_tup (xs := TCM.primes.map V.int) (fun j σ H' => ∃ (n' o i : Int) (pr : Option V), σ = [some (.int n'), some (.int o), some (.int i), pr] ∧ H' = H ∧ 0 < n' ∧ n' ≤ 1000000 ∧ TCM.sqL (TCM.primes.drop j) n' o i = TCM.sqOut n)
        ⟨n, 1, 1, none, rfl, rfl, by omega, h1, eq0.symm⟩ (fun j σ H' _ hP => ?_) (fun j x σ H' hx hP => ?_) (fun σ H' hP => ?_)⟩
      · obtain ⟨_, _, _, _, _, rfl, _⟩ := hP
        exact hT _
      · obtain ⟨n', o, i, pr, rfl, rfl, g0, g1, ge⟩ := hP
        rw [List.getElem?_map] at hx
        obtain ⟨p, hp, rfl⟩ : ∃ p, TCM.primes[j]? = some p ∧ V.int p = x := by
          cases e : TCM.primes[j]? with
          | none =>
            rw [e] at hx
            cases hx
          | some p =>
            rw [e] at hx
            exact ⟨p, rfl, Option.some.inj hx⟩
        obtain ⟨p2, p9⟩ := primes_ok p (List.mem_of_getElem? hp)
        have hdrop : TCM.primes.drop j = p :: TCM.primes.drop (j + 1) := by
          obtain ⟨hl, e⟩ := List.getElem?_eq_some_iff.mp hp
          rw [List.drop_eq_getElem_cons hl, e]
        rw [hdrop] at ge
        obtain ⟨pp1, pp2⟩ := pp_le p2 p9
        have cd : CDiv n' (p * p) := ⟨by omega, by omega⟩
        refine ⟨_, rfl, rfl, _, rfl, ?_⟩
        by_cases hn1 : n' = 1
        · subst hn1
          refine iteD1 rfl ?_
          have e2 : (o, i, (1 : Int)) = TCM.sqOut n := by
            rw [← ge]
            show _ = (if (1 : Int) = 1 then (o, i, (1 : Int)) else _)
            rw [if_pos rfl]
          rw [← e2] at q
          exact ⟨_, rfl, _, rfl, _, rfl, by show 3 ≤ sizeLine; decide, fun p hp => q p hp⟩
        · refine iteD0 (ine hn1) ?_
          refine ⟨fun m σ H'' => ∃ (n2 o2 : Int) (k : Nat), σ = [some (.int n2), some (.int o2), some (.int i), some (.int p)] ∧ H'' = H' ∧ WInn p n' o n2 o2 k ∧ n2.toNat = m,
            ⟨_, n', o, 10, rfl, rfl, WInn.start g0 g1, rfl⟩, fun m σ H'' hW => ?_⟩
          obtain ⟨n2, o2, k, rfl, rfl, hw, hm⟩ := hW
          refine ⟨_, rfl, _, rfl, _, rfl, p, p, rfl, rfl, cmul_r (by omega) (by omega), n2, p * p, rfl, rfl, by show 0 < p * p; omega, rfl, _, rfl, ?_⟩
          by_cases hz : n2 % (p * p) = 0
          · refine iteD1 (congrArg V.int hz) ?_
            obtain ⟨k2, hw2, hlt⟩ := hw.turn p2 hz
            refine ⟨fun σ' H3 => σ' = [some (.int (n2 / (p * p))), some (.int (o2 * p)), some (.int i), some (.int p)] ∧ H3 = H'', fun σ' H3 hN => ?_, ?_⟩
            · obtain ⟨rfl, rfl⟩ := hN
              exact ⟨_, hm ▸ hlt, _, _, k2, rfl, rfl, hw2, rfl⟩
            · exact ⟨_, rfl, _, rfl, _, rfl, p, p, rfl, rfl, cmul_r (by omega) (by omega), n2, p * p, rfl, rfl, ⟨by omega, by omega⟩, _, rfl, _, rfl, o2, p, rfl, rfl, cmul_r (by omega) (by omega), rfl, rfl⟩
          · refine iteD0 (ine hz) ?_
            have ew := hw.stop hz
            obtain ⟨w0, w1, _, _⟩ := hw
            have ge2 : (if n2 % p = 0 then TCM.sqL (TCM.primes.drop (j + 1)) (n2 / p) o2 (i * p) else TCM.sqL (TCM.primes.drop (j + 1)) n2 o2 i) = TCM.sqOut n := by
              rw [← ge]
              show _ = (if n' = 1 then (o, i, n') else if (TCM.whl 10 p n' o).1 % p = 0 then TCM.sqL (TCM.primes.drop (j + 1)) ((TCM.whl 10 p n' o).1 / p) (TCM.whl 10 p n' o).2 (i * p) else TCM.sqL (TCM.primes.drop (j + 1)) (TCM.whl 10 p n' o).1 (TCM.whl 10 p n' o).2 i)
              rw [if_neg hn1, ew]
            refine ⟨_, rfl, _, rfl, n2, p, rfl, rfl, by show 0 < p; omega, rfl, _, rfl, ?_⟩
            by_cases hz2 : n2 % p = 0
            · refine iteD1 (congrArg V.int hz2) ?_
              rw [if_pos hz2] at ge2
              have e3 := Int.mul_ediv_add_emod n2 p
              have l1 : 0 < n2 / p := by
                rcases Int.lt_or_le 0 (n2 / p) with z | z
                · exact z
                · have := Int.mul_le_mul_of_nonneg_left z (show 0 ≤ p by omega)
                  rw [Int.mul_zero] at this
                  omega
              have l2 : n2 / p ≤ 1000000 := Int.le_trans (Int.ediv_le_self _ (by omega)) w1
              exact ⟨_, rfl, _, rfl, n2, p, rfl, rfl, ⟨by omega, by omega⟩, _, rfl, _, rfl, i, p, rfl, rfl, cmul_r (by omega) (by omega), n2 / p, o2, i * p, some (.int p), rfl, rfl, l1, l2, ge2⟩
            · refine iteD0 (ine hz2) ?_
              rw [if_neg hz2] at ge2
              exact ⟨n2, o2, i, some (.int p), rfl, rfl, w0, w1, ge2⟩
      · obtain ⟨n', o, i, pr, rfl, rfl, g0, g1, ge⟩ := hP
        rw [List.length_map, List.drop_length] at ge
        have e2 : (o, i, n') = TCM.sqOut n := ge
        rw [← e2] at q
        exact ⟨_, rfl, _, rfl, _, rfl, by show 3 ≤ sizeLine; decide, fun p hp => q p hp⟩
/-! ### _law_low -/
def spLowL : Sp := fun vs H Q _ => ∃ (t b : Int) (A : Nat), vs = [.int t, .int b] ∧ b ≠ 0 ∧ b.natAbs < 2 ^ A ∧ 0 < A ∧ A ≤ 8000 ∧ ∀ p, H p = none → Q (.ref p) (upd H p (.tup [.int (TCM.lowL t b).1, .int (TCM.lowL t b).2]))
theorem scLowL : FnScope ["_law_up", "_law_under", "_law_one", "_law_other"] ["_law_up", "_law_under"] (defScope sLow) := ⟨rfl, rfl, rfl, by decide +kernel, rfl, by decide +kernel, by decide +kernel⟩
theorem ok_lowL (F : FnP K "_law_low" sLow f fd) (gA : mg "abs" = none) : FnOk P w K mg base CX0 1 f fd ["_law_up", "_law_under"] spLowL := by
  refine F.ok scLowL (fun vs H Q E h => ?_) (fun cdv A outer s H vs Q E hr h => ?_)
  · obtain ⟨a, b, _, rfl, _⟩ := h
    rfl
  · obtain ⟨t, b, Ab, rfl, hb, hz, hA0, hA8, q⟩ := h
    refine ⟨_, PSs.nox (pss_cons (ps_par (i := 2) (j := 3) rfl scLowL.nd rfl rfl (by decide) rfl rfl (pa_cons (pe_callB call_abs (by rfl) gA (by decide +kernel) (pa_cons (pv 0) pa_nil)) (pa_cons (pe_callB call_abs (by rfl) gA (by decide +kernel) (pa_cons (pv 1) pa_nil)) pa_nil)) (by rfl))
      (pss_cons (ps_while PassesOwn.never (pt_cmpR op_gt (pv 3) pe_int (nomark _))
        (pss_one (ps_par (i := 2) (j := 3) rfl scLowL.nd rfl rfl (by decide) rfl rfl (pa_cons (pv 3) (pa_cons (pe_op op_modN (pv 2) (pv 3)) pa_nil)) (by rfl))))
      (pss_one (ps_ret (pe_ifExp (pt_cmpR op_gt (pv 1) pe_int (nomark _))
        (pe_tup (pa_cons (pe_op op_fdivNW (pv 0) (pv 2)) (pa_cons (pe_op op_fdivNW (pv 1) (pv 2)) pa_nil)))
        (pe_tup (pa_cons (pe_op op_fdivNW (pe_un un_neg (pv 0)) (pv 2)) (pa_cons (pe_op op_fdivNW (pe_un un_neg (pv 1)) (pv 2)) pa_nil)))))))), ?_⟩
    refine ⟨_, rfl, t, rfl, _, rfl, b, rfl, _, _, rfl, ?_⟩
    refine ⟨fun m σ H' => ∃ x y : Int, σ = [some (.int t), some (.int b), some (.int x), some (.int y)] ∧ H' = H ∧ 0 ≤ x ∧ 0 ≤ y ∧ Int.gcd x y = Int.gcd t b ∧ y.natAbs = m,
      ⟨_, ((t.natAbs : Nat) : Int), ((b.natAbs : Nat) : Int), ?_, rfl, by omega, by omega, rfl, rfl⟩, fun m σ H' hW => ?_⟩
    · show [some (V.int t), some (V.int b), some (V.int (if t < 0 then -t else t)), some (V.int (if b < 0 then -b else b))] = _
      rw [TCM.abs_eq, TCM.abs_eq]
    · obtain ⟨x, y, rfl, rfl, x0, y0, eg, em⟩ := hW
      refine ⟨_, rfl, y, 0, rfl, rfl, _, rfl, ?_⟩
      by_cases hy : y > 0
      · refine iteD1 hy ?_
        refine ⟨fun σ' H'' => ∃ x' y' : Int, σ' = [some (.int t), some (.int b), some (.int x'), some (.int y')] ∧ H'' = H' ∧ 0 ≤ x' ∧ 0 ≤ y' ∧ Int.gcd x' y' = Int.gcd t b ∧ y'.natAbs < m, fun σ' H'' hN => ?_, ?_⟩
        · obtain ⟨x', y', e1, e2, e3, e4, e5, e6⟩ := hN
          exact ⟨_, e6, x', y', e1, e2, e3, e4, e5, rfl⟩
        · refine ⟨_, rfl, _, rfl, _, rfl, x, y, rfl, rfl, by show y ≠ 0; omega, _, _, rfl, y, x.fmod y, rfl, rfl, y0, Int.fmod_nonneg_of_pos x hy, ?_, ?_⟩
          · rw [TCM.gcd_fmod, eg]
          · rw [← em]
            exact TCM.fmod_lt x y (by omega)
      · refine iteD0 hy ?_
        have ey : y = 0 := by omega
        subst ey
        have ex : x = ((Int.gcd t b : Nat) : Int) := by
          rw [← eg, show Int.gcd x 0 = x.natAbs from Int.gcd_zero_right x]
          omega
        subst ex
        have gp := TCM.gcd_pos t b hb
        have hs : ∀ z, CDivNW z ((Int.gcd t b : Nat) : Int) := fun z => ⟨by omega, log_lt (n := Ab) (by omega) hA0 (Nat.lt_of_le_of_lt (by
          have := TCM.gcd_le t b hb
          omega) hz)⟩
        refine ⟨_, rfl, b, 0, rfl, rfl, _, rfl, ?_⟩
        by_cases hb0 : b > 0
        · refine iteD1 hb0 ?_
          have e : TCM.lowL t b = (t.fdiv ((Int.gcd t b : Nat) : Int), b.fdiv ((Int.gcd t b : Nat) : Int)) := if_pos hb0
          rw [e] at q
          exact ⟨_, rfl, _, rfl, t, _, rfl, rfl, hs _, _, rfl, _, rfl, b, _, rfl, rfl, hs _, by show 2 ≤ sizeLine; decide, fun p hp => q p hp⟩
        · refine iteD0 hb0 ?_
          have e : TCM.lowL t b = ((-t).fdiv ((Int.gcd t b : Nat) : Int), (-b).fdiv ((Int.gcd t b : Nat) : Int)) := if_neg hb0
          rw [e] at q
          exact ⟨_, rfl, t, rfl, _, rfl, -t, _, rfl, rfl, hs _, _, rfl, b, rfl, _, rfl, -b, _, rfl, rfl, hs _, by show 2 ≤ sizeLine; decide, fun p hp => q p hp⟩
/-! ### _law_pen -/
def spPen (K : PySem.W.Frag) : Sp := fun vs H Q _ => ∃ (a : Addr) (ns : List Int), vs = [.ref a] ∧ SqL K H a (ns.map V.int) ∧ ns.length ≤ 63 ∧
  ∀ (p c : Addr) (ms : List Int) H', Same H H' → H p = none → H' p = some (.lst [.ref c, .int 0, .int 0]) → H' c = some (.lst (ms.map V.int)) → p ≠ c → Q (.ref p) H'
theorem scPen : FnScope ["_law_script"] ["_law_script"] (defScope sPen) := ⟨rfl, rfl, rfl, by decide +kernel, rfl, by decide +kernel, by decide +kernel⟩
theorem ok_pen (F : FnP K "_law_pen" sPen f fd) (gl : mg "list" = none) : FnOk P w K mg base CX0 1 f fd ["_law_script"] (spPen K) := by
  refine F.ok scPen (fun vs H Q E h => ?_) (fun cdv A outer s H vs Q E hr h => ?_)
  · obtain ⟨a, ns, rfl, _⟩ := h
    rfl
  · obtain ⟨a, ns, rfl, hS, hn, q⟩ := h
    refine ⟨_, PSs.nox (pss_one (ps_ret (pe_lst (pa_cons (pe_callTy call_list_of (by rfl) gl (by decide +kernel) (pa_cons (pe_slice sl_list (pv 0) po_none (po_some pe_int)) pa_nil)) (pa_cons pe_int (pa_cons pe_int pa_nil)))))), ?_⟩
    refine ⟨_, rfl, _, rfl, a, _, rfl, hS, fun c1 hc1 => ?_⟩
    have sm1 := same_upd (o := .lst (cutV (ns.map V.int) none (some 63))) hc1
    refine ⟨c1, _, rfl, .inl (SqL.of upd_same), fun c hc => ?_⟩
    have sm2 := same_upd (o := .lst (cutV (ns.map V.int) none (some 63))) hc
    refine ⟨by show 3 ≤ sizeLine; decide, fun p hp => ?_⟩
    have sm3 := same_upd (o := .lst [.ref c, .int 0, .int 0]) hp
    have ec : cutV (ns.map V.int) none (some 63) = ((ns.drop (HT.sIx (ns.map V.int).length 0 none)).take (HT.sIx (ns.map V.int).length (ns.map V.int).length (some 63) - HT.sIx (ns.map V.int).length 0 none)).map V.int := by
      rw [List.map_take, List.map_drop]
      rfl
    refine q p c ((ns.drop (HT.sIx (ns.map V.int).length 0 none)).take (HT.sIx (ns.map V.int).length (ns.map V.int).length (some 63) - HT.sIx (ns.map V.int).length 0 none)) _ ((sm1.trans sm2).trans sm3) ((sm1.trans sm2).free hp) upd_same ?_ ?_
    · rw [← ec]
      exact sm3 _ _ upd_same
    · exact fun e => by
        rw [e, upd_same] at hp
        cases hp
/-! ### _law_draw -/
/-- the pen: its cells at c, where it stands, what is left of a great cell -/
def PenAt (H : Hp) (p c : Addr) (ms : List Int) (n : Int) : Prop := ∃ left : Int, H p = some (.lst [.ref c, .int n, .int left]) ∧ H c = some (.lst (ms.map V.int)) ∧ p ≠ c
/-- all but the pen is as it was -/
def SameBut (p : Addr) (H H' : Hp) : Prop := ∀ b o, b ≠ p → H b = some o → H' b = some o
def spDraw : Sp := fun vs H Q _ => ∃ (p c : Addr) (ms : List Int) (n m : Int), vs = [.ref p, .int m] ∧ PenAt H p c ms n ∧ 0 ≤ n ∧ n ≤ 1000000 ∧ 0 < m ∧ m < 2 ^ 1000 ∧
  ∀ (d n' : Int) H', 0 ≤ d → d < m → n ≤ n' → n' ≤ n + 1 → PenAt H' p c ms n' → SameBut p H H' → Q (.int d) H'
theorem scDraw : FnScope ["_law_pen_here", "_law_many", "_law_found", "_law_at", "_law_cell", "_law_number"] ["_law_pen_here", "_law_many"] (defScope sDraw) := ⟨rfl, rfl, rfl, by decide +kernel, rfl, by decide +kernel, by decide +kernel⟩
theorem but_upd {p : Addr} {H H1 : Hp} {o : HO} (s : SameBut p H H1) : SameBut p H (upd H1 p o) := fun b x hb e => by
  rw [upd_ne hb]
  exact s b x hb e
set_option exponentiation.threshold 2000 in
theorem wdiv {i m : Int} (h : 0 < m) (h2 : m < 2 ^ 1000) : CDivW i m := ⟨h, Nat.lt_of_lt_of_le (PySem.Flt.log2_lt_of (show 0 < 1000 by decide) (show m.natAbs < 2 ^ 1000 by omega)) (by decide)⟩
theorem ok_draw (F : FnP K "_law_draw" sDraw f fd) (gl : mg "len" = none) : FnOk P w K mg base CX0 1 f fd ["_law_pen_here", "_law_many"] spDraw := by
  refine F.ok scDraw (fun vs H Q E h => ?_) (fun cdv A outer s H vs Q E hr h => ?_)
  · obtain ⟨p, c, ms, n, m, rfl, _⟩ := h
    rfl
  · obtain ⟨p, c, ms, n, m, rfl, ⟨left, hp, hc, hpc⟩, n0, n1, m0, m1, q⟩ := h
    refine ⟨_, PSs.nox (pss_cons (ps_if (pt_cmpR op_gt (pe_ix ix_list (pv 0) pe_int (fun _ _ => rfl)) pe_int (nomark _))
        (pss_cons (ps_set (i := 2) scDraw.nd rfl (.inl rfl) (pe_op op_mod (pe_ix ix_list (pv 0) pe_int (fun _ _ => rfl)) (pv 1)))
        (pss_cons (ps_asg (pe_op op_fdivW (pe_ix ix_list (pv 0) pe_int (fun _ _ => rfl)) (pv 1)) (pg_sub (pv 0) pe_int set_list))
        (pss_one (ps_ret (pv 2))))) pss_nil)
      (pss_cons (ps_set (i := 3) scDraw.nd rfl (.inl rfl) (pe_ix ix_list (pv 0) pe_int (fun _ _ => rfl)))
      (pss_cons (ps_asg (pe_op op_add (pv 3) pe_int) (pg_sub (pv 0) pe_int set_list))
      (pss_cons (ps_set (i := 4) scDraw.nd rfl (.inl rfl) pe_int)
      (C8.pss_cut (ps_if (pt_cmpR op_gt (pe_callB call_len_seq (by rfl) gl PySem.boot_len (pa_cons (pe_ix ix_list (pv 0) pe_int (fun _ _ => rfl)) pa_nil)) pe_int (nomark _))
        (pss_one (ps_set (i := 4) scDraw.nd rfl (.inl rfl) (pe_ix ix_list (pe_ix ix_list (pv 0) pe_int (fun _ _ => rfl)) (pe_op op_mod (pv 3) (pe_callB call_len_seq (by rfl) gl PySem.boot_len (pa_cons (pe_ix ix_list (pv 0) pe_int (fun _ _ => rfl)) pa_nil))) (fun _ _ => rfl)))) pss_nil)
      (C8.pss_cut (ps_if (PW.pt (pw_and (pt_cmpR op_lt (pv 3) (pe_callB call_len_seq (by rfl) gl PySem.boot_len (pa_cons (pe_ix ix_list (pv 0) pe_int (fun _ _ => rfl)) pa_nil)) (nomark _)) (pw_and1 (pt_cmpR op_ge (pv 4) (pe_op op_pow pe_int pe_int) (nomark _)))))
        (pss_cons (ps_asg (pe_op op_fdivW (pv 4) (pv 1)) (pg_sub (pv 0) pe_int set_list)) (pss_one (ps_ret (pe_op op_mod (pv 4) (pv 1))))) pss_nil)
      (pss_cons (ps_set (i := 5) scDraw.nd rfl (.inl rfl) (pe_op op_mod (pe_op op_mul (pe_op op_add (pe_op op_mod (pv 4) pe_int) pe_int) (pe_op op_add (pe_op op_add (pe_op op_mul (pv 3) (pv 3)) (pe_op op_mul pe_int (pv 3))) pe_int)) pe_int))
      (pss_cons (ps_set (i := 5) scDraw.nd rfl (.inl rfl) (pe_op op_mod (pe_op op_mul (pe_op op_mod (pe_op op_add (pe_op op_pow (pv 5) pe_int) (pe_op op_mul pe_int (pv 3))) pe_int) pe_int) pe_int))
      (C8.pss_cut (ps_if (pt_cmpR op_gt (pv 1) (pe_op op_pow pe_int pe_int) (nomark _))
        (pss_one (ps_set (i := 5) scDraw.nd rfl (.inl rfl) (pe_op op_add (pe_op op_mul (pv 5) pe_int) (pe_op op_mod (pe_op op_mul (pe_op op_mod (pv 5) pe_int) pe_int) pe_int)))) pss_nil)
      (pss_one (ps_ret (pe_op op_mod (pe_op op_fdiv (pv 5) pe_int) (pv 1))))))))))))), ?_⟩
    have i2 : atI ([.ref c, .int n, .int left] : List V) 2 = some (.int left) := atI_nat (j := 2) rfl
    have i1 : atI ([.ref c, .int n, .int left] : List V) 1 = some (.int n) := atI_nat (j := 1) rfl
    refine ⟨_, rfl, p, _, 2, _, rfl, rfl, SqL.of hp, i2, left, 0, rfl, rfl, _, rfl, ?_⟩
    by_cases hl : 0 < left
    · refine iteD1 hl ?_
      refine ⟨_, rfl, p, _, 2, _, rfl, rfl, SqL.of hp, i2, _, rfl, left, m, rfl, rfl, m0, ?_⟩
      refine ⟨_, rfl, p, _, 2, _, rfl, rfl, SqL.of hp, i2, _, rfl, left, m, rfl, rfl, wdiv m0 m1, ?_⟩
      refine ⟨_, rfl, p, _, 2, 2, rfl, rfl, hp, rfl, ?_⟩
      refine ⟨_, rfl, ?_⟩
      exact q _ n _ (Int.emod_nonneg _ (by omega)) (Int.emod_lt_of_pos _ m0) (by omega) (by omega) ⟨left / m, upd_same, by rw [upd_ne hpc.symm]; exact hc, hpc⟩ (but_upd fun _ _ _ e => e)
    · refine iteD0 hl ?_
      refine ⟨_, rfl, p, _, 1, _, rfl, rfl, SqL.of hp, i1, ?_⟩
      refine ⟨_, rfl, n, 1, rfl, rfl, _, rfl, p, _, 1, 1, rfl, rfl, hp, rfl, ?_⟩
      have hp2u : (upd H p (.lst [.ref c, .int (n + 1), .int left])) p = some (.lst [.ref c, .int (n + 1), .int left]) := upd_same
      have hc2u : (upd H p (.lst [.ref c, .int (n + 1), .int left])) c = some (.lst (ms.map V.int)) := by
        rw [upd_ne hpc.symm]
        exact hc
      obtain ⟨H2, eH2⟩ : ∃ H2 : Hp, upd H p (.lst [.ref c, .int (n + 1), .int left]) = H2 := ⟨_, rfl⟩
      have hp2 : H2 p = some (.lst [.ref c, .int (n + 1), .int left]) := by
        rw [← eH2]
        exact hp2u
      have hc2 : H2 c = some (.lst (ms.map V.int)) := by
        rw [← eH2]
        exact hc2u
      have sb : SameBut p H H2 := by
        rw [← eH2]
        exact but_upd fun _ _ _ e => e
      have j0 : atI ([.ref c, .int (n + 1), .int left] : List V) 0 = some (.ref c) := atI_nat (j := 0) rfl
      refine ⟨fun σ H' => ∃ cell : Int, σ = [some (.ref p), some (.int m), none, some (.int n), some (.int cell), none] ∧ H' = H2, ?_, fun σ' H' hM => ?_⟩
      · refine ⟨_, rfl, p, _, 0, _, rfl, rfl, SqL.of hp2u, j0, c, _, rfl, .inl (SqL.of hc2u), _, 0, rfl, rfl, _, rfl, ite2 (fun e => ?_) (fun e => ?_)⟩
        · have e2 : 0 < ((ms.map V.int).length : Int) := of_decide_eq_true e
          rw [List.length_map] at e2
          have hk0 := Int.emod_nonneg n (show (ms.length : Int) ≠ 0 by omega)
          have hk1 := Int.emod_lt_of_pos n e2
          have hk : (n % (ms.length : Int)).toNat < ms.length := by omega
          refine ⟨_, rfl, p, _, 0, _, rfl, rfl, SqL.of hp2u, j0, _, rfl, _, rfl, p, _, 0, _, rfl, rfl, SqL.of hp2u, j0, c, _, rfl, .inl (SqL.of hc2u), n, _, rfl, rfl, by
            show 0 < ((ms.map V.int).length : Int)
            rw [List.length_map]
            exact e2, c, _, _, .int (ms[(n % (ms.length : Int)).toNat]), rfl, rfl, SqL.of hc2u, ?_, ?_⟩
          · rw [List.length_map]
            exact at_of (j := (n % (ms.length : Int)).toNat) (by omega) (by rw [List.getElem?_map, List.getElem?_eq_getElem hk]; rfl)
          · exact ⟨_, rfl, eH2⟩
        · exact ⟨7, rfl, eH2⟩
      · obtain ⟨cell, rfl, eM⟩ := hM
        replace eM := eM.symm
        subst eM
        refine ⟨fun σ H' => σ = [some (.ref p), some (.int m), none, some (.int n), some (.int cell), none] ∧ H' = H2, ?_, fun σ' H' hM => ?_⟩
        · refine ⟨_, rfl, _, rfl, p, _, 0, _, rfl, rfl, SqL.of hp2, j0, c, _, rfl, .inl (SqL.of hc2), n, _, rfl, rfl, _, rfl, ite2 (fun _ => ?_) (fun _ => iteF ⟨rfl, rfl⟩)⟩
          refine ⟨_, rfl, 10, 18, rfl, rfl, ⟨by decide, by decide, by decide⟩, cell, _, rfl, rfl, _, rfl, ite2 (fun _ => ?_) (fun _ => ⟨rfl, rfl⟩)⟩
          refine ⟨_, rfl, _, rfl, cell, m, rfl, rfl, wdiv m0 m1, _, rfl, p, _, 2, 2, rfl, rfl, hp2, rfl, ?_⟩
          refine ⟨_, rfl, _, rfl, cell, m, rfl, rfl, m0, ?_⟩
          exact q _ (n + 1) _ (Int.emod_nonneg _ (by omega)) (Int.emod_lt_of_pos _ m0) (by omega) (by omega) ⟨cell / m, upd_same, by rw [upd_ne hpc.symm]; exact hc2, hpc⟩ (but_upd sb)
        · obtain ⟨rfl, eM⟩ := hM
          replace eM := eM.symm
          subst eM
          have c0 := Int.emod_nonneg cell (show (2147483629 : Int) ≠ 0 by decide)
          have c1 := Int.emod_lt_of_pos cell (show (0 : Int) < 2147483629 by decide)
          refine ⟨_, rfl, cell, 2147483629, rfl, rfl, (show (0 : Int) < 2147483629 by decide), _, 11, rfl, rfl, _, rfl, _, rfl, n, n, rfl, rfl, .inl ⟨by omega, by omega⟩, _, rfl, 5, n, rfl, rfl, .inl ⟨by decide, by decide⟩, _, _, rfl, rfl, _, 3, rfl, rfl, _, _, rfl, rfl, .inl ⟨by omega, by omega⟩, _, 2147483647, rfl, rfl, (show (0 : Int) < 2147483647 by decide), ?_⟩
          have hz2 : ∀ z : Int, (z % 2147483647).natAbs < 2 ^ 64 := fun z => by
            have d0 := Int.emod_nonneg z (show (2147483647 : Int) ≠ 0 by decide)
            have d1 := Int.emod_lt_of_pos z (show (0 : Int) < 2147483647 by decide)
            omega
          refine ⟨_, rfl, _, 3, rfl, rfl, ⟨by decide, by decide, hz2 _⟩, _, rfl, 69621, n, rfl, rfl, .inl ⟨by decide, by decide⟩, _, _, rfl, rfl, _, 2147483587, rfl, rfl, (show (0 : Int) < 2147483587 by decide), _, 40692, rfl, rfl, .inr ⟨by decide, by decide⟩, _, 2147483399, rfl, rfl, (show (0 : Int) < 2147483399 by decide), ?_⟩
          refine ⟨fun σ H' => ∃ z : Int, σ = [some (.ref p), some (.int m), none, some (.int n), some (.int cell), some (.int z)] ∧ H' = H2, ?_, fun σ' H' hM => ?_⟩
          · refine ⟨_, rfl, 10, 6, rfl, rfl, ⟨by decide, by decide, by decide⟩, m, _, rfl, rfl, _, rfl, ite2 (fun _ => ?_) (fun _ => ⟨_, rfl, rfl⟩)⟩
            exact ⟨_, rfl, _, 2147483629, rfl, rfl, .inr ⟨by decide, by decide⟩, _, rfl, _, 1000003, rfl, rfl, (show (0 : Int) < 1000003 by decide), _, 48271, rfl, rfl, .inr ⟨by decide, by decide⟩, _, 2147483587, rfl, rfl, (show (0 : Int) < 2147483587 by decide), _, _, rfl, rfl, _, rfl, rfl⟩
          · obtain ⟨z, rfl, eM⟩ := hM
            replace eM := eM.symm
            subst eM
            refine ⟨_, rfl, z, 64, rfl, rfl, ⟨by decide, by decide⟩, _, rfl, _, m, rfl, rfl, m0, ?_⟩
            exact q _ (n + 1) _ (Int.emod_nonneg _ (by omega)) (Int.emod_lt_of_pos _ m0) (by omega) (by omega) ⟨left, hp2, hc2, hpc⟩ sb
end
end TC
/-! name = {k: v for ..}, the name a local: the dict is stored while the comprehension's block still stands. -/
namespace TCA
open PySem PySem.Spec PyProof.Rows L2
section
variable {X : Cx}
theorem sw_dict {kx vx : Expr} {gs : List Comprehension} {scope : Scope} {pos py : Pos} {y : Str} {l : Nat} {env : Env} (hk : env.scope.kind = .function) (hy : env.scope.names.lookup y = some .local) (hl : (py.line == pos.line) = true)
    (ha : (scope.names.any fun (n, k) => n == y && (k == .local || k == .cell)) = false) : swapsWith (.DictComp kx vx gs scope pos) (some (.Name y py)) l env = pure true := by
  have e1 : env.kindOf y = some .local := hy
  have e2 : env.blockKind = .function := by
    unfold Env.blockKind
    rw [hk]
    rfl
  unfold swapsWith
  simp only [e2, e1, ha, Expr.pos, hl]
  rfl
theorem ps_setDc {i : Nat} {y : Str} {py : Pos} {kx vx tg iter : Expr} {ifs : List Expr} {scope : Scope} {own : List (Str × Nat)} {pos spos : Pos} {wi : TI} {g : TG} {tt : TT} {tk tv : TE} (hc : X.calm = true) (hN : X.N.Nodup) (hy : X.N[i]? = some y) (hyl : X.env.scope.names.lookup y = some .local)
    (hsw : swapsWith (.DictComp kx vx [⟨tg, iter, ifs, 0⟩] scope pos) (some (.Name y py)) spos.line X.env = pure true) (hi : PI X tg iter wi) (ok : BlkOk X.N X.env.scope scope own)
    (hg : ∀ (s : Shared) (H : Hp) (C : Addr) (cl : List (Str × Addr)) (fp : List Addr), PG (X.blk s H scope (compEnvC scope cl C X.env) fp) tg g)
    (ht : ∀ (s : Shared) (H : Hp) (C : Addr) (cl : List (Str × Addr)) (fp : List Addr), PTs (X.blk s H scope (compEnvC scope cl C X.env) fp) ifs tt)
    (hk : ∀ (s : Shared) (H : Hp) (C : Addr) (cl : List (Str × Addr)) (fp : List Addr), PE (X.blk s H scope (compEnvC scope cl C X.env) fp) kx tk)
    (hv : ∀ (s : Shared) (H : Hp) (C : Addr) (cl : List (Str × Addr)) (fp : List Addr), PE (X.blk s H scope (compEnvC scope cl C X.env) fp) vx tv)
    (hs : ∀ x, foldedSetIterable iter X.env x = pure x := by intro _; rfl) :
    PS X (.Assign [.Name y py] (.DictComp kx vx [⟨tg, iter, ifs, 0⟩] scope pos) spos) (tAsg (tDc wi g tt tk tv (own.map (·.2))) (gName i)) := by
  refine ⟨fun pins s σ H D I h => ?_⟩
  rw [exec_Assign_Name_used _ _ _ _ hsw]
  refine wpAny_bind (wpAny_standAt (wpAny_bind ?_))
  show wpAny _ X.A (do let _ ← comprehension (.DictComp kx vx [⟨tg, iter, ifs, 0⟩] scope pos) scope X.env (firstIterPos [⟨tg, iter, ifs, 0⟩] pos) newDict false (eval iter X.env) (some (assign (.Name y py) X.env))) _ _ s
  have h' : tDc wi g tt tk tv (own.map (·.2)) σ H (fun x H1 => gName i x σ H1 D.nx) := h
  have core := dc_core (Qf := fun _ s' => SP X pins D .next s') (pos := pos) (pos' := firstIterPos [⟨tg, iter, ifs, 0⟩] pos) (use := some (assign (.Name y py) X.env)) hc hN I hi ok hg ht hk hv hs h' fun d C s' m H' I' q hn fp => by
    show wpAny _ _ (assign (.Name y py) X.env (.ref d)) _ _ _
    refine wpAny_assign_Name (store_ok2 (v := V.ref d) I' hN hy (.inl hyl) rfl (fun s2 I2 ⟨a, sb, ha⟩ => ?_) (.inr hyl))
    obtain ⟨f0, f1, f2, f3, f4, f5⟩ := fp
    have hCa : C ≠ a := by
      rcases ha with z | z
      · rw [z]
        exact f1
      · exact fun e => f4 y a z e.symm
    exact ⟨m, hn.sameBut sb hCa, fun h3 sb3 => ⟨_, H', I2.turned (t' := s2.toks) (fun b o hb e => (sb3.2 b hb).trans e) f0 f1 f3 f4 f5, q⟩⟩
  exact wpAny_bind (thn core fun _ s' hq => wpAny_pure (wpAny_pure hq))
/-! a for over a list or a tuple, whichever it is -/
theorem seqL_at {K : PySem.W.Frag} {H H' : Hp} {a : Addr} {xs : List V} (e : ∀ u, H a = some u → H' a = some u) (h : SqL K H a xs) : SqL K H' a xs := by
  rcases h with (h | ⟨o, h⟩) | h
  · exact .inl (.inl (e _ h))
  · exact .inl (.inr ⟨o, e _ h⟩)
  · exact .inr h
theorem seqT_at {K : PySem.W.Frag} {H H' : Hp} {a : Addr} {xs : List V} (e : ∀ u, H a = some u → H' a = some u) (h : SqT K H a xs) : SqT K H' a xs := by
  rcases h with (h | ⟨o, h⟩) | h
  · exact .inl (.inl (e _ h))
  · exact .inl (.inr ⟨o, e _ h⟩)
  · exact .inr h
def iSeq (K : PySem.W.Frag) (tl : TE) : TI := fun σ H R => tl σ H fun x H1 => ∃ a xs, x = .ref a ∧ (SqL K H1 a xs ∨ SqT K H1 a xs) ∧ ∀ (J : It) (G : Hp → Prop), (∀ H', (∀ u, H1 a = some u → H' a = some u) → G H') → Walk J xs.length G (YAt xs) → R J H1
theorem pi_seq {tg l : Expr} {tl : TE} (hl : PE X l tl) : PI X tg l (iSeq X.K tl) := by
  refine ⟨fun pins s σ H R I h => thn (hl.run pins s σ H _ I h) fun v s1 ⟨x, H1, I1, r1, q1⟩ => ?_⟩
  obtain ⟨a, xs, ex, hq, q⟩ := q1
  subst ex
  cases r1
  have own : ∀ b ∈ [s1.heap.objs.size], FpOk X pins H1 b := fun b hb => by
    rw [List.mem_singleton.mp hb]
    exact I1.fpOk (Nat.le_refl _) (I1.hok.fresh (Nat.le_refl _))
  rcases hq with hq | hq
  · obtain ⟨its, _, pl, _⟩ := I1.list hq
    exact wpAny_pyIter_list pl.isList ⟨s1.heap.objs.size, [s1.heap.objs.size], _, _, H1, rfl, I1.kept (t' := s1.toks) fun b o e => Heap.get?_push_of_some _ e, turn_list a _, ⟨_, Heap.get?_push_size _ rfl, rfl, rfl⟩, own, q _ _ (fun H' e => seqL_at e hq) walk_list⟩
  · obtain ⟨its, _, pl, _⟩ := I1.tuple hq
    exact wpAny_pyIter_tuple (show s1.heap.IsTuple a its.toArray from pl) ⟨s1.heap.objs.size, [s1.heap.objs.size], _, _, H1, rfl, I1.kept (t' := s1.toks) fun b o e => Heap.get?_push_of_some _ e, turn_tuple a _, ⟨_, Heap.get?_push_size _ rfl, rfl, rfl⟩, own, q _ _ (fun H' e => seqT_at e hq) walk_tup⟩
end
end TCA
namespace TC
open PySem PySem.Spec PyProof.Rows L2 TCA
/-! ### what stands in the heap -/
abbrev Part : Type := Int × Rat
def parV (x : Part) : HO := .tup [.int x.1, .int x.2.num, .int (x.2.den : Int)]
def fraV (q : Rat) : HO := .tup [.int q.num, .int (q.den : Int)]
def Refs (H : Hp) : List Addr → List Part → Prop
  | [], [] => True
  | u :: us, x :: L => H u = some (parV x) ∧ Refs H us L
  | _, _ => False
theorem Refs.same {H H' : Hp} (e : Same H H') : ∀ {us : List Addr} {L : List Part}, Refs H us L → Refs H' us L
  | [], [], _ => trivial
  | u :: us, x :: L, h => ⟨e _ _ h.1, Refs.same e h.2⟩
  | [], _ :: _, h => h.elim
  | _ :: _, [], h => h.elim
theorem Refs.len {H : Hp} : ∀ {us : List Addr} {L : List Part}, Refs H us L → us.length = L.length
  | [], [], _ => rfl
  | u :: us, x :: L, h => congrArg Nat.succ (Refs.len h.2)
  | [], _ :: _, h => h.elim
  | _ :: _, [], h => h.elim
theorem Refs.get {H : Hp} : ∀ {us : List Addr} {L : List Part} {i : Nat} {v : V}, Refs H us L → (us.map V.ref)[i]? = some v → ∃ u x, v = .ref u ∧ us[i]? = some u ∧ L[i]? = some x ∧ H u = some (parV x)
  | [], [], i, v, _, e => by simp at e
  | u :: us, x :: L, 0, v, h, e => ⟨u, x, (Option.some.inj e).symm, rfl, rfl, h.1⟩
  | u :: us, x :: L, i + 1, v, h, e => by
    have e' : (us.map V.ref)[i]? = some v := e
    obtain ⟨u', x', a, b, c, d⟩ := Refs.get h.2 e'
    exact ⟨u', x', a, b, c, d⟩
  | [], _ :: _, _, _, h, _ => h.elim
  | _ :: _, [], _, _, h, _ => h.elim
theorem Refs.snoc {H : Hp} {u : Addr} {x : Part} (hu : H u = some (parV x)) : ∀ {us : List Addr} {L : List Part}, Refs H us L → Refs H (us ++ [u]) (L ++ [x])
  | [], [], _ => ⟨hu, trivial⟩
  | v :: us, y :: L, h => ⟨h.1, Refs.snoc hu h.2⟩
  | [], _ :: _, h => h.elim
  | _ :: _, [], h => h.elim
theorem Refs.all {H : Hp} : ∀ {us : List Addr} {L : List Part}, Refs H us L → ∀ u ∈ us, ∃ x, H u = some (parV x)
  | [], [], _, u, hu => by cases hu
  | v :: us, y :: L, h, u, hu => by
    rcases List.mem_cons.mp hu with e | e
    · rw [e]
      exact ⟨y, h.1⟩
    · exact Refs.all h.2 u e
  | [], _ :: _, h, _, _ => h.elim
  | _ :: _, [], h, _, _ => h.elim
theorem Refs.upd {H : Hp} {l : Addr} {o : HO} (hl : ∀ x, H l ≠ some (parV x)) : ∀ {us : List Addr} {L : List Part}, Refs H us L → Refs (L2.upd H l o) us L
  | [], [], _ => trivial
  | u :: us, x :: L, h => ⟨by
    rw [upd_ne fun e => hl x (by rw [← e]; exact h.1)]
    exact h.1, Refs.upd hl h.2⟩
  | [], _ :: _, h => h.elim
  | _ :: _, [], h => h.elim
def PartsL (H : Hp) (p : Addr) (L : List Part) : Prop := ∃ us, H p = some (.tup (us.map V.ref)) ∧ Refs H us L
theorem PartsL.same {H H' : Hp} {p : Addr} {L : List Part} (e : Same H H') (h : PartsL H p L) : PartsL H' p L := by
  obtain ⟨us, h1, h2⟩ := h
  exact ⟨us, e _ _ h1, h2.same e⟩
def NumAt (C : Addr) (H : Hp) (x : Addr) (L : List Part) : Prop := ∃ dx p, H x = some (.ins C dx [("parts", .ref p)]) ∧ PartsL H p L
theorem NumAt.same {C : Addr} {H H' : Hp} {x : Addr} {L : List Part} (e : Same H H') (h : NumAt C H x L) : NumAt C H' x L := by
  obtain ⟨dx, p, h1, h2⟩ := h
  exact ⟨dx, p, e _ _ h1, h2.same e⟩
/-! ### as data -/
def parD (x : Part) : PyData := .tuple [.int x.1, .int x.2.num, .int (x.2.den : Int)]
def toD (L : List Part) : PyData := .tuple (L.map parD)
theorem Refs.dp {K : PySem.W.Frag} {H : Hp} : ∀ {us : List Addr} {L : List Part}, Refs H us L → DpAll K H (us.map V.ref) (L.map parD)
  | [], [], _ => .nil
  | u :: us, x :: L, h => .cons (.tup (SqT.of h.1) (.cons (.int _) (.cons (.int _) (.cons (.int _) .nil)))) (Refs.dp h.2)
  | [], _ :: _, h => h.elim
  | _ :: _, [], h => h.elim
theorem PartsL.dp {K : PySem.W.Frag} {H : Hp} {p : Addr} {L : List Part} (h : PartsL H p L) : Dp K H (.ref p) (toD L) := by
  obtain ⟨us, h1, h2⟩ := h
  exact .tup (SqT.of h1) h2.dp
theorem toD_shaped (L : List Part) : SeqAt.shaped (toD L) = true := by
  have h1 : ∀ L : List Part, PyData.canLayAll0 (L.map parD) = true := fun L => by
    induction L with
    | nil => rfl
    | cons x L ih =>
      show (PyData.canLay0 (parD x) && PyData.canLayAll0 (L.map parD)) = true
      rw [ih]
      rfl
  have h2 : ∀ L : List Part, PyData.depthAll (L.map parD) ≤ 1 := fun L => by
    induction L with
    | nil => exact Nat.zero_le _
    | cons x L ih =>
      show max (PyData.depth (parD x)) (PyData.depthAll (L.map parD)) ≤ 1
      exact Nat.max_le.mpr ⟨Nat.le_refl 1, ih⟩
  show (PyData.canLayAll0 (L.map parD) && decide (PyData.depthAll (L.map parD) + 1 ≤ 64)) = true
  rw [h1, decide_eq_true (by have := h2 L; omega)]
  rfl
theorem parD_eqv (x y : Part) : PyData.eqv (parD x) (parD y) = decide (x = y) := by
  obtain ⟨r, q⟩ := x
  obtain ⟨s, p⟩ := y
  simp only [parD, PyData.eqv, PyData.eqvAll]
  by_cases h1 : r = s
  · by_cases h2 : q = p
    · subst h1
      subst h2
      simp
    · have h3 : ¬ (q.num = p.num ∧ (q.den : Int) = (p.den : Int)) := fun z => h2 (Rat.ext z.1 (by omega))
      have h4 : ¬ ((r, q) = (s, p)) := fun z => h2 (Prod.ext_iff.mp z).2
      rw [decide_eq_false h4]
      rcases Classical.not_and_iff_not_or_not.mp h3 with z | z
      · simp [z]
      · have z2 : ¬ q.den = p.den := fun w => z (by rw [w])
        simp [z2]
        exact fun _ _ => z
  · have h4 : ¬ ((r, q) = (s, p)) := fun z => h1 (Prod.ext_iff.mp z).1
    rw [decide_eq_false h4]
    simp [h1]
theorem toD_eqv (L M : List Part) : PyData.eqv (toD L) (toD M) = decide (L = M) := by
  show PyData.eqvAll (L.map parD) (M.map parD) = decide (L = M)
  induction L generalizing M with
  | nil =>
    cases M with
    | nil => rfl
    | cons y M => rfl
  | cons x L ih =>
    cases M with
    | nil => rfl
    | cons y M =>
      show (PyData.eqv (parD x) (parD y) && PyData.eqvAll (L.map parD) (M.map parD)) = _
      rw [parD_eqv, ih]
      by_cases h1 : x = y <;> by_cases h2 : L = M <;> simp [h1, h2]
/-! ### dicts from roots to fractions -/
def DictAt (H : Hp) (d : Addr) (ks : List Int) (g : Int → Rat) : Prop := ∃ kvs, H d = some (.dK kvs) ∧ kvs.map (·.1) = ks.map (Sum.inl : Int → Key) ∧
  (∀ r ∈ ks, ∃ u, valV kvs (Sum.inl r : Key) = some (.ref u) ∧ H u = some (fraV (g r))) ∧ ks.Nodup ∧ ∀ r, r ∉ ks → g r = 0
theorem DictAt.same {H H' : Hp} {d : Addr} {ks : List Int} {g : Int → Rat} (e : Same H H') (h : DictAt H d ks g) : DictAt H' d ks g := by
  obtain ⟨kvs, h1, h2, h3, h4⟩ := h
  exact ⟨kvs, e _ _ h1, h2, fun r hr => by
    obtain ⟨u, a, b⟩ := h3 r hr
    exact ⟨u, a, e _ _ b⟩, h4⟩
theorem DictAt.imp {H : Hp} {d : Addr} {ks : List Int} {g g' : Int → Rat} (h : DictAt H d ks g) (e : ∀ r, g r = g' r) : DictAt H d ks g' := by
  have : g = g' := funext e
  rw [← this]
  exact h
def addKey (ks : List Int) (r : Int) : List Int := if r ∈ ks then ks else ks ++ [r]
def setF (g : Int → Rat) (r : Int) (q : Rat) : Int → Rat := fun s => if s = r then q else g s
theorem addKey_len (ks : List Int) (r : Int) : (addKey ks r).length ≤ ks.length + 1 := by
  unfold addKey
  split
  · omega
  · rw [List.length_append, List.length_singleton]
    exact Nat.le_refl _
theorem mem_addKey {ks : List Int} {r s : Int} : s ∈ addKey ks r ↔ s ∈ ks ∨ s = r := by
  unfold addKey
  split
  · rename_i h
    exact ⟨.inl, fun z => z.elim id fun e => e ▸ h⟩
  · simp
theorem inl_ne {a b : Int} (h : a ≠ b) : (Sum.inl a : Key) ≠ Sum.inl b := fun e => h (Sum.inl.inj e)
theorem valV_out {kvs : List (Key × V)} {ks : List Int} {r : Int} (e : kvs.map (·.1) = ks.map (Sum.inl : Int → Key)) (h : r ∉ ks) : valV kvs (Sum.inl r : Key) = none := by
  cases z : valV kvs (Sum.inl r : Key) with
  | none => rfl
  | some v =>
    have m := valV_in z
    rw [e] at m
    obtain ⟨s, hs, es⟩ := List.mem_map.mp m
    exact absurd (Sum.inl.inj es ▸ hs) h
theorem keys_put {kvs : List (Key × V)} {ks : List Int} {r : Int} {v : V} (e : kvs.map (·.1) = ks.map (Sum.inl : Int → Key)) : (putK kvs (Sum.inl r : Key) v).map (·.1) = (addKey ks r).map (Sum.inl : Int → Key) := by
  unfold putK addKey
  by_cases h : r ∈ ks
  · have a : (kvs.any fun kv => decide (kv.1 = (Sum.inl r : Key))) = true := by
      have m : (Sum.inl r : Key) ∈ kvs.map (·.1) := by
        rw [e]
        exact List.mem_map.mpr ⟨r, h, rfl⟩
      obtain ⟨p, hp, ep⟩ := List.mem_map.mp m
      exact List.any_eq_true.mpr ⟨p, hp, decide_eq_true ep⟩
    rw [if_pos a, if_pos h, List.map_map, ← e]
    refine List.map_congr_left fun kv _ => ?_
    show (if kv.1 = (Sum.inl r : Key) then (kv.1, v) else kv).1 = kv.1
    split <;> rfl
  · have a : ¬ (kvs.any fun kv => decide (kv.1 = (Sum.inl r : Key))) = true := by
      rw [valV_any, valV_out e h]
      decide
    rw [if_neg a, if_neg h, List.map_append, List.map_append, e]
    rfl
theorem nd_addKey {ks : List Int} {r : Int} (h : ks.Nodup) : (addKey ks r).Nodup := by
  unfold addKey
  split
  · exact h
  · rename_i z
    rw [List.nodup_append]
    refine ⟨h, by simp, fun a ha b hb => ?_⟩
    rw [List.mem_singleton.mp hb]
    exact fun e => z (e ▸ ha)
theorem put_ok {H : Hp} {d u : Addr} {kvs : List (Key × V)} {ks : List Int} {g : Int → Rat} {r : Int} {q : Rat} (e : H d = some (.dK kvs)) (ek : kvs.map (·.1) = ks.map (Sum.inl : Int → Key))
    (hv : ∀ r ∈ ks, ∃ u, valV kvs (Sum.inl r : Key) = some (.ref u) ∧ H u = some (fraV (g r))) (nd : ks.Nodup) (out : ∀ r, r ∉ ks → g r = 0) (hu : H u = some (fraV q)) :
    DictAt (upd H d (.dK (putK kvs (Sum.inl r : Key) (.ref u)))) d (addKey ks r) (setF g r q) := by
  have nu : ∀ {v : Addr} {p : Rat}, H v = some (fraV p) → v ≠ d := fun {v p} hv z => by
    rw [z, e] at hv
    cases hv
  refine ⟨_, upd_same, keys_put ek, fun s hs => ?_, nd_addKey nd, fun s hs => ?_⟩
  · rw [valV_put]
    by_cases es : s = r
    · subst es
      refine ⟨u, if_pos rfl, ?_⟩
      rw [upd_ne (nu hu)]
      show H u = some (fraV (if s = s then q else g s))
      rw [if_pos rfl]
      exact hu
    · have hs' : s ∈ ks := (mem_addKey.mp hs).resolve_right es
      obtain ⟨v, a, b⟩ := hv s hs'
      refine ⟨v, by rw [if_neg (inl_ne es)]; exact a, ?_⟩
      rw [upd_ne (nu b)]
      show H v = some (fraV (if s = r then q else g s))
      rw [if_neg es]
      exact b
  · have h1 : s ∉ ks := fun z => hs (mem_addKey.mpr (.inl z))
    have h2 : s ≠ r := fun z => hs (mem_addKey.mpr (.inr z))
    show (if s = r then q else g s) = 0
    rw [if_neg h2, out s h1]
theorem dget_in {H : Hp} {d : Addr} {kvs : List (Key × V)} {r : Int} {v : V} (e : H d = some (.dK kvs)) (h : valV kvs (Sum.inl r : Key) = some v) : DGet H d (.int r) (some v) := by
  have z := DGet.k (k := (Sum.inl r : Key)) e
  rw [h] at z
  exact z
theorem dget_out {H : Hp} {d : Addr} {kvs : List (Key × V)} {r : Int} (e : H d = some (.dK kvs)) (h : valV kvs (Sum.inl r : Key) = none) : DGet H d (.int r) none := by
  have z := DGet.k (k := (Sum.inl r : Key)) e
  rw [h] at z
  exact z
theorem len_keys {kvs : List (Key × V)} {ks : List Int} (e : kvs.map (·.1) = ks.map (Sum.inl : Int → Key)) : kvs.length = ks.length := by
  have := congrArg List.length e
  simpa using this
end TC
namespace TC
open PySem PySem.Spec PyProof.Rows L2 TCA
theorem fdiv_nat (m n : Nat) : (m : Int).fdiv (n : Int) = ((m / n : Nat) : Int) := by
  rw [Int.fdiv_eq_ediv_of_nonneg _ (by omega)]
  rfl
theorem cdivn {i : Int} {n B : Nat} (h0 : 0 < n) (h : n < 2 ^ B) (hB : 0 < B) (hB2 : B ≤ 8000) : CDivNW i (n : Int) := ⟨by omega, log_lt (n := B) (by omega) hB (by rw [Int.natAbs_natCast]; exact h)⟩
theorem cmulw {i j : Int} {A B : Nat} (h1 : i.natAbs < 2 ^ A) (h2 : j.natAbs < 2 ^ B) (hA : 0 < A) (hB : 0 < B) (h : A + B ≤ 100000) : CMulW i j := wide_mul h1 h2 hA hB (by omega)
/-- what is asked of the class Exact as the top has made it -/
structure TxtN (K : PySem.W.Frag) (mg : Str → Option Value) (C fI fQ : Addr) : Prop where
  cl : Cls K C
  nP : NoAttr K C "parts"
  mkr : Mk K C fI
  mq : Meth K C "__eq__" fQ
  mgC : mg "Exact" = some (.ref C)
  ne : PySem.W.findIn K (.ref C) "__ne__" = some (some (.builtin "object.__ne__"))
  ca : PySem.W.findIn K (.ref C) "__class__" = some (some (.builtin "object.__class__"))
  cn : PySem.W.specialIn K (.builtin "object.__class__") "__get__" = some (some (.builtin "getset_descriptor.__get__"))
  ct : PySem.W.takesIn K (.builtin "object.__class__") = some true
  cm : PySem.W.mroIn K C (.type "object") = some true
abbrev kwE : List (Str × V) := [("bottom", .int 1), ("root", .int 1)]
abbrev psE : List Str := ["top", "bottom", "root"]
abbrev FnE (K : PySem.W.Frag) (f : Addr) (fd : FuncData) : Prop := FunD K "exact" "exact" (defArgs sExact) (defBody sExact) (defScope sExact) [] kwE f fd
abbrev FnM (K : PySem.W.Frag) (m q : Str) (st : Stmt) (f : Addr) (fd : FuncData) : Prop := FunD K m q (defArgs st) (defBody st) (defScope st) [] [] f fd
/-- the parts of top / bottom times the root of a number with the squares taken out -/
def oneL (r t b : Int) : List Part := if t = 0 then [] else [(r, Rat.divInt t b)]
def exL (t b r : Int) : List Part := oneL (TCM.sqOut r).2.1 (t * (TCM.sqOut r).1) b
def RootOk (r : Int) : Prop := 0 ≤ r ∧ r ≤ 1000000 ∧ (TCM.sqOut r).2.2 = 1 ∧ 0 ≤ (TCM.sqOut r).1 ∧ (TCM.sqOut r).1 ≤ 1000
section
variable {P : Program} {w : World} {K : PySem.W.Frag} {mg : Str → Option Value} {base : Heap} {f : Addr} {fd : FuncData} {C fI fQ : Addr}
theorem TxtN.ty (T : TxtN K mg C fI fQ) {H : Hp} {a dx : Addr} {fs : List (Str × V)} (e : H a = some (.ins C dx fs)) : TyX K H (.ref a) (.ref C) := .base (.ins e T.cl T.ca T.cn T.ct T.cm)
theorem kit_self : PySem.W.kitOne K (.ref C) (.ref C) = some true := by
  show (if ((Value.ref C) == (Value.ref C)) = true then some true else _) = some true
  rw [if_pos (by simp)]
/-! ### sum_in_lowest -/
def spSumLow : Sp := fun vs H Q _ => ∃ (p q : Rat) (A B : Nat), vs = [.int p.num, .int (p.den : Int), .int q.num, .int (q.den : Int)] ∧ TCR.Sz A p ∧ TCR.Sz B q ∧ 0 < A ∧ 0 < B ∧ A + B ≤ 8000 ∧ ∀ c, H c = none → Q (.ref c) (upd H c (fraV (p + q)))
theorem scSumLow : FnScope ["top", "bottom", "other", "below", "common", "found", "left"] ["top", "bottom", "other", "below"] (defScope sSumLow) := ⟨rfl, rfl, rfl, by decide +kernel, rfl, by decide +kernel, by decide +kernel⟩
theorem ok_sumLow {fS : Addr} {fdS : FuncData} (F : FnP K "sum_in_lowest" sSumLow f fd) (GS : FnOk P w K mg base CX0 1 fS fdS ["one", "other"] spShared) (bS : L2.Binds K fdS ["one", "other"] []) (kS : PySem.W.keepIn K (.ref fS) = true) (gS : mg "shared" = some (.ref fS)) :
    FnOk P w K mg base CX0 2 f fd ["top", "bottom", "other", "below"] spSumLow := by
  refine F.ok scSumLow (fun vs H Q E h => ?_) (fun cdv A outer s H vs Q E hr h => ?_)
  · obtain ⟨p, q, A, B, rfl, _⟩ := h
    rfl
  · obtain ⟨p, q, a, b, rfl, zp, zq, a0, b0, ab, k⟩ := h
    refine ⟨_, PSs.nox (pss_cons (ps_set (i := 4) scSumLow.nd rfl (.inl rfl) (pe_call GS hr (by rfl) gS kS bS .nil pass0 (pa_cons (pv 1) (pa_cons (pv 3) pa_nil))))
      (pss_cons (ps_set (i := 5) scSumLow.nd rfl (.inl rfl) (pe_op op_add (pe_op op_mulW (pv 0) (pe_op op_fdivNW (pv 3) (pv 4))) (pe_op op_mulW (pv 2) (pe_op op_fdivNW (pv 1) (pv 4)))))
      (pss_cons (ps_set (i := 6) scSumLow.nd rfl (.inl rfl) (pe_call GS hr (by rfl) gS kS bS .nil pass0 (pa_cons (pv 5) (pa_cons (pv 4) pa_nil))))
      (pss_one (ps_ret (pe_tup (pa_cons (pe_op op_fdivNW (pv 5) (pv 6)) (pa_cons (pe_op op_mulW (pe_op op_fdivNW (pv 1) (pv 4)) (pe_op op_fdivNW (pv 3) (pv 6))) pa_nil)))))))), ?_⟩
    obtain ⟨e1, e2, g0, l0, ga, gb, ln, lb⟩ := TCR.sum_low p q
    have gle : Nat.gcd p.den q.den ≤ p.den := Nat.le_of_dvd p.den_pos ga
    have cg : ∀ i, CDivNW i ((Nat.gcd p.den q.den : Nat) : Int) := fun i => cdivn g0 (Nat.lt_of_le_of_lt gle zp.2) a0 (by omega)
    have qd : ((q.den / Nat.gcd p.den q.den : Nat) : Int).natAbs < 2 ^ b := by
      rw [Int.natAbs_natCast]
      exact Nat.lt_of_le_of_lt (Nat.div_le_self ..) zq.2
    have pd : ((p.den / Nat.gcd p.den q.den : Nat) : Int).natAbs < 2 ^ a := by
      rw [Int.natAbs_natCast]
      exact Nat.lt_of_le_of_lt (Nat.div_le_self ..) zp.2
    refine ⟨_, rfl, _, rfl, (p.den : Int), (q.den : Int), rfl, ?_⟩
    show tSeq _ _ _ [some (V.int p.num), some (V.int (p.den : Int)), some (V.int q.num), some (V.int (q.den : Int)), some (V.int ((Nat.gcd p.den q.den : Nat) : Int)), none, none] H
    refine ⟨_, rfl, _, rfl, _, rfl, (q.den : Int), _, rfl, rfl, cg _, p.num, _, rfl, rfl, ?_, ?_⟩
    · rw [fdiv_nat]
      exact cmulw zp.1 qd a0 b0 (by omega)
    refine ⟨_, rfl, _, rfl, _, rfl, (p.den : Int), _, rfl, rfl, cg _, q.num, _, rfl, rfl, ?_, _, _, rfl, rfl, ?_⟩
    · rw [fdiv_nat]
      exact cmulw zq.1 pd b0 a0 (by omega)
    rw [fdiv_nat, fdiv_nat]
    show tSeq _ _ _ [some (V.int p.num), some (V.int (p.den : Int)), some (V.int q.num), some (V.int (q.den : Int)), some (V.int ((Nat.gcd p.den q.den : Nat) : Int)), some (V.int (p.num * ((q.den / Nat.gcd p.den q.den : Nat) : Int) + q.num * ((p.den / Nat.gcd p.den q.den : Nat) : Int))), none] H
    generalize hnum : p.num * ((q.den / Nat.gcd p.den q.den : Nat) : Int) + q.num * ((p.den / Nat.gcd p.den q.den : Nat) : Int) = num at e1 e2 l0 ln lb ⊢
    refine ⟨_, rfl, _, rfl, num, ((Nat.gcd p.den q.den : Nat) : Int), rfl, ?_⟩
    rw [show Int.gcd num ((Nat.gcd p.den q.den : Nat) : Int) = Nat.gcd num.natAbs (Nat.gcd p.den q.den) from rfl]
    generalize hl : Nat.gcd num.natAbs (Nat.gcd p.den q.den) = l at e1 e2 l0 ln lb ⊢
    have ll : l ≤ q.den := Nat.le_of_dvd q.den_pos lb
    have cl : ∀ i, CDivNW i ((l : Nat) : Int) := fun i => cdivn l0 (Nat.lt_of_le_of_lt ll zq.2) b0 (by omega)
    refine ⟨_, rfl, _, rfl, num, _, rfl, rfl, cl _, _, rfl, _, rfl, (p.den : Int), _, rfl, rfl, cg _, _, rfl, _, rfl, (q.den : Int), _, rfl, rfl, cl _, _, _, rfl, rfl, ?_, by show 2 ≤ sizeLine; decide, fun c hc => ?_⟩
    · rw [fdiv_nat, fdiv_nat]
      exact cmulw pd (by rw [Int.natAbs_natCast]; exact Nat.lt_of_le_of_lt (Nat.div_le_self ..) zq.2) a0 b0 (by omega)
    · have z := k c hc
      have ef : fraV (p + q) = .tup [.int (num.fdiv (l : Int)), .int ((p.den : Int).fdiv ((Nat.gcd p.den q.den : Nat) : Int) * (q.den : Int).fdiv (l : Int))] := by
        unfold fraV
        rw [e1, e2, fdiv_nat, fdiv_nat, Int.fdiv_eq_ediv_of_nonneg _ (by omega)]
        rfl
      rw [ef] at z
      exact z
/-! ### __init__ -/
def spInit (C : Addr) : Sp := fun vs H Q _ => ∃ (x dx : Addr) (v : V), vs = [.ref x, v] ∧ H x = some (.ins C dx []) ∧ Q .non (upd H x (.ins C dx [("parts", v)]))
theorem scInit : FnScope ["self", "parts"] ["self", "parts"] (defScope sInit) := ⟨rfl, rfl, rfl, by decide +kernel, rfl, by decide +kernel, by decide +kernel⟩
theorem ok_init (F : FnM K "__init__" "Exact.__init__" sInit f fd) (T : TxtN K mg C fI fQ) : FnOk P w K mg base CX0 1 f fd ["self", "parts"] (spInit C) := by
  refine F.ok scInit (fun vs H Q E h => ?_) (fun cdv A outer s H vs Q E hr h => ?_)
  · obtain ⟨x, dx, v, rfl, _⟩ := h
    rfl
  · obtain ⟨x, dx, v, rfl, hx, q⟩ := h
    refine ⟨_, PSs.nox (pss_one (ps_fld (pv 0) (pv 1) rfl)), ?_⟩
    exact ⟨_, rfl, _, rfl, x, C, dx, [], rfl, hx, T.cl, T.nP, (by show 0 < 1000; decide), q⟩
/-- Exact(p) behind its making -/
theorem made_num {H : Hp} {p : Addr} {L : List Part} {Q : VK} (hp : PartsL H p L) (q : ∀ x H', Same H H' → H x = none → NumAt C H' x L → Q (.ref x) H') :
    ∀ x dx, H x = none → H dx = none → dx ≠ x → spInit C (.ref x :: ([.ref p] ++ [])) (upd (upd H dx (.own x)) x (.ins C dx [])) (fun v H2 => v = .non ∧ Q (.ref x) H2) E0 := by
  intro x dx hx hdx hne
  refine ⟨x, dx, .ref p, rfl, upd_same, rfl, ?_⟩
  have smx : Same H (upd (upd (upd H dx (.own x)) x (.ins C dx [])) x (.ins C dx [("parts", .ref p)])) := fun b o e => by
    rw [upd_ne (ne_of_none e hx), upd_ne (ne_of_none e hx), upd_ne (ne_of_none e hdx)]
    exact e
  exact q x _ smx hx ⟨dx, p, upd_same, hp.same smx⟩
/-! ### __eq__ -/
def spEqN (C : Addr) : Sp := fun vs H Q _ => ∃ (x y : Addr) (L M : List Part), vs = [.ref x, .ref y] ∧ NumAt C H x L ∧ NumAt C H y M ∧ Q (.bl (decide (L = M))) H
theorem scEq : FnScope ["self", "other"] ["self", "other"] (defScope sEq) := ⟨rfl, rfl, rfl, by decide +kernel, rfl, by decide +kernel, by decide +kernel⟩
theorem ok_eq (F : FnM K "__eq__" "Exact.__eq__" sEq f fd) (T : TxtN K mg C fI fQ) (gI : mg "isinstance" = none) : FnOk P w K mg base CX0 1 f fd ["self", "other"] (spEqN C) := by
  refine F.ok scEq (fun vs H Q E h => ?_) (fun cdv A outer s H vs Q E hr h => ?_)
  · obtain ⟨x, y, L, M, rfl, _⟩ := h
    rfl
  · obtain ⟨x, y, L, M, rfl, ⟨dx, p, hx, hp⟩, ⟨dy, p', hy, hp'⟩, q⟩ := h
    have hu : (A.deeper (envOfC "Exact.__eq__" (defScope sEq) s.heap.objs.size f cdv)).units + 64 < cLine := by
      have := hr.un
      omega
    refine ⟨_, PSs.nox (pss_one (ps_ret (pe_and (pe_callB call_isi (by rfl) gI (by decide +kernel) (pa_cons (pv 1) (pa_cons (pe_glob (v := .ref C) (by rfl) T.mgC rfl) pa_nil)))
      (pe_one (pe_cmpR (op_eqD hu) (pe_fld (pv 0) rfl) (pe_fld (pv 1) rfl) (nomark _)))))), ?_⟩
    refine ⟨_, rfl, _, _, _, _, true, rfl, .own C, T.ty hy, kit_self, true, rfl, iteT ?_⟩
    refine ⟨_, rfl, x, C, dx, _, _, rfl, hx, T.cl, T.nP, rfl, _, rfl, y, C, dy, _, _, rfl, hy, T.cl, T.nP, rfl, toD L, toD M, hp.dp, hp'.dp, toD_shaped L, toD_shaped M, ?_⟩
    rw [toD_eqv]
    exact q
/-! ### need_exact -/
def spNeed (C : Addr) : Sp := fun vs H Q _ => ∃ (x : Addr) (L : List Part), vs = [.ref x] ∧ NumAt C H x L ∧ Q .non H
theorem scNeed : FnScope ["thing"] ["thing"] (defScope sNeed) := ⟨rfl, rfl, rfl, by decide +kernel, rfl, by decide +kernel, by decide +kernel⟩
theorem ok_need (F : FnP K "need_exact" sNeed f fd) (T : TxtN K mg C fI fQ) (gI : mg "isinstance" = none) : FnOk P w K mg base CX0 1 f fd ["thing"] (spNeed C) := by
  refine F.ok scNeed (fun vs H Q E h => ?_) (fun cdv A outer s H vs Q E hr h => ?_)
  · obtain ⟨x, L, rfl, _⟩ := h
    rfl
  · obtain ⟨x, L, rfl, ⟨dx, p, hx, hp⟩, q⟩ := h
    refine ⟨_, PSs.nox (pss_one (ps_if (pt_not (pt_val (pe_callB call_isi (by rfl) gI (by decide +kernel) (pa_cons (pv 0) (pa_cons (pe_glob (v := .ref C) (by rfl) T.mgC rfl) pa_nil))))) pss_never pss_nil)), ?_⟩
    exact ⟨_, rfl, _, _, _, _, true, rfl, .own C, T.ty hx, kit_self, true, rfl, iteF q⟩
/-! ### lowered, of one root -/
end
end TC
namespace TC
open PySem PySem.Spec PyProof.Rows L2 TCA
theorem same_at {H H1 : Hp} {d : Addr} {o : HO} (s : Same H H1) (h : H d = none) : Same H (upd H1 d o) := fun b x e => by
  rw [upd_ne (ne_of_none e h)]
  exact s _ _ e
theorem rfst (x : Part) : parV x = .tup [.int x.1, .int x.2.num, .int (x.2.den : Int)] := rfl
section
variable {P : Program} {w : World} {K : PySem.W.Frag} {mg : Str → Option Value} {base : Heap} {f : Addr} {fd : FuncData} {C fI fQ : Addr}
/-! ### merged -/
def spMerged : Sp := fun vs H Q _ => ∃ (a o : Addr) (L M : List Part) (us : List Addr) (A B : Nat), vs = [.ref a, .ref o] ∧ PartsL H a L ∧ TCR.Canon L ∧ (H o = some (.tup (us.map V.ref)) ∨ H o = some (.lst (us.map V.ref))) ∧ Refs H us M ∧ TCR.Canon M ∧
  (∀ x ∈ L, TCR.Sz A x.2) ∧ (∀ x ∈ M, TCR.Sz B x.2) ∧ 0 < A ∧ 0 < B ∧ A + B ≤ 7000 ∧ L.length + M.length ≤ 60 ∧
  ∀ p N H', Same H H' → H p = none → PartsL H' p N → TCR.Canon N → (∀ r, TCR.val N r = TCR.val L r + TCR.val M r) → N.length ≤ L.length + M.length → Q (.ref p) H'
theorem scMerged : FnScope ["parts", "others", "root", "top", "bottom", "fractions", "first", "below", "kept"] ["parts", "others"] (defScope sMerged) := ⟨rfl, rfl, rfl, by decide +kernel, rfl, by decide +kernel, by decide +kernel⟩
theorem ok_merged {fS : Addr} {fdS : FuncData} (F : FnP K "merged" sMerged f fd) (GS : FnOk P w K mg base CX0 2 fS fdS ["top", "bottom", "other", "below"] spSumLow) (bS : L2.Binds K fdS ["top", "bottom", "other", "below"] []) (kS : PySem.W.keepIn K (.ref fS) = true) (gS : mg "sum_in_lowest" = some (.ref fS))
    (gs : mg "sorted" = none) (gl : mg "list" = none) (gt : mg "tuple" = none) : FnOk P w K mg base CX0 3 f fd ["parts", "others"] spMerged := by
  refine F.ok scMerged (fun vs H Q E h => ?_) (fun cdv Ar outer s H vs Q E hr h => ?_)
  · obtain ⟨a, o, L, M, us, A, B, rfl, _⟩ := h
    rfl
  · obtain ⟨a, o, L, M, us, A, B, rfl, ⟨ul, ha, hL⟩, cL, ho, hM, cM, zL, zM, A0, B0, AB, len, q⟩ := h
    have hu := hu_of hr
    refine ⟨_, PSs.nox (pss_cons (ps_setDc (own := [("root", 2), ("top", 3), ("bottom", 4)]) (g := gTup K 3 (gCons (gName 2) (gCons (gName 3) (gCons (gName 4) gNil)))) (tt := tYes) (i := 5) rfl scMerged.nd rfl rfl (sw_dict rfl rfl rfl (by decide +kernel)) (pi_tup (pv 0))
          (blkOk_by (N := ["parts", "others", "root", "top", "bottom", "fractions", "first", "below", "kept"]) (sc := defScope sMerged) (by decide +kernel))
          (fun _ _ _ _ _ => pg_tup rfl (pgs_cons (pg_name (i := 2) scMerged.nd rfl (.inl rfl)) (pgs_cons (pg_name (i := 3) scMerged.nd rfl (.inl rfl)) (pgs_cons (pg_name (i := 4) scMerged.nd rfl (.inl rfl)) pgs_nil)))) (fun _ _ _ _ _ => pts_nil) (fun _ _ _ _ _ => pv 2) (fun _ _ _ _ _ => pe_tup (pa_cons (pv 3) (pa_cons (pv 4) pa_nil))))
      (pss_cons (ps_for PassesOwn.never rfl (pi_seq (pv 1)) (pg_tup rfl (pgs_cons (pg_name (i := 2) scMerged.nd rfl (.inl rfl)) (pgs_cons (pg_name (i := 3) scMerged.nd rfl (.inl rfl)) (pgs_cons (pg_name (i := 4) scMerged.nd rfl (.inl rfl)) pgs_nil))))
        (pss_one (ps_if (pt_cmp (pc_din hu (pv 2) (pv 5)))
          (pss_cons (ps_asg (pe_dget hu (pv 5) (pv 2) (fun _ _ => rfl)) (pg_tup rfl (pgs_cons (pg_name (i := 6) scMerged.nd rfl (.inl rfl)) (pgs_cons (pg_name (i := 7) scMerged.nd rfl (.inl rfl)) pgs_nil))))
            (pss_one (ps_dput hu (pv 5) (pv 2) (pe_call GS hr (by rfl) gS kS bS .nil pass0 (pa_cons (pv 6) (pa_cons (pv 7) (pa_cons (pv 3) (pa_cons (pv 4) pa_nil))))) rfl)))
          (pss_one (ps_dput hu (pv 5) (pv 2) (pe_tup (pa_cons (pv 3) (pa_cons (pv 4) pa_nil))) rfl)))))
      (pss_cons (ps_set (i := 8) scMerged.nd rfl (.inl rfl) (pe_lst pa_nil))
      (pss_cons (ps_for PassesOwn.never rfl (pi_list (pe_callB cr_sorted (by rfl) gs (by decide +kernel) (pa_cons (pe_callTy (call_listD rfl) (by rfl) gl (by decide +kernel) (pa_cons (pv 5) pa_nil)) pa_nil))) (pg_name (i := 2) scMerged.nd rfl (.inl rfl))
        (pss_cons (ps_asg (pe_dget hu (pv 5) (pv 2) (fun _ _ => rfl)) (pg_tup rfl (pgs_cons (pg_name (i := 3) scMerged.nd rfl (.inl rfl)) (pgs_cons (pg_name (i := 4) scMerged.nd rfl (.inl rfl)) pgs_nil))))
          (pss_one (ps_if (pt_cmpR op_ne (pv 3) pe_int (nomark _)) (pss_one (ps_expr (pe_bm PySem.F.plainAttrs_list PySem.F.slot_list_append PySem.F.type_list_append mt_append (pv 8) (pa_cons (pe_tup (pa_cons (pv 2) (pa_cons (pv 3) (pa_cons (pv 4) pa_nil)))) pa_nil)))) pss_nil))))
      (pss_one (ps_ret (pe_callTy call_tuple_of (by rfl) gt (by decide +kernel) (pa_cons (pv 8) pa_nil)))))))), ?_⟩
    -- fractions
    refine ⟨_, rfl, a, rfl, ⟨_, SqT.of ha⟩, fun D hD => dc_tup (xs := ul.map V.ref) (fun i H' => Same H H' ∧ ∃ ks, DictAt H' D ks (TCR.val (L.take i)) ∧ ks.length ≤ i) ?_ (fun i H' _ hP => SqT.of (hP.1 _ _ ha)) (fun i x H' hx hP => ?_) (fun H' hP => ?_)⟩
    · exact ⟨same_upd hD, [], ⟨[], upd_same, rfl, (fun r hr => by cases hr), List.nodup_nil, fun _ _ => rfl⟩, Nat.le_refl _⟩
    · obtain ⟨sm, ks, hD', lk⟩ := hP
      obtain ⟨u, y, rfl, hu', hy, hyv⟩ := (hL.same sm).get hx
      have il : i < L.length := (List.getElem?_eq_some_iff.mp hy).1
      refine ⟨u, _, rfl, SqT.of hyv, rfl, _, _, rfl, _, _, rfl, _, _, rfl, rfl, rfl, ?_⟩
      refine ⟨_, rfl, _, rfl, _, rfl, by show 2 ≤ sizeLine; decide, fun c hc => ?_⟩
      have smc := same_upd (o := fraV y.2) hc
      obtain ⟨kvs, e1, e2, e3, e4, e5⟩ := hD'.same smc
      refine ⟨kvs, Sum.inl y.1, rfl, e1, small1000 (by rw [len_keys e2]; omega), same_at (sm.trans smc) hD, addKey ks y.1, ?_, ?_⟩
      · refine (put_ok (r := y.1) (q := y.2) e1 e2 e3 e4 e5 upd_same).imp fun s => ?_
        exact (TCR.val_take cL s hy).2.symm
      · exact Nat.le_trans (addKey_len ks y.1) (by omega)
    obtain ⟨sm1, ks1, hD1, lk1⟩ := hP
    rw [List.length_map, hL.len, List.take_length] at hD1
    rw [List.length_map, hL.len] at lk1
    -- others
    refine ⟨_, rfl, o, us.map V.ref, rfl, ?_, fun J G hG wk => ?_⟩
    · rcases ho with ho | ho
      · exact .inr (SqT.of (sm1 _ _ ho))
      · exact .inl (SqL.of (sm1 _ _ ho))
    refine for_it wk (fun i σ H2 => ∃ (v2 v3 v4 v6 v7 : Option V) (ks : List Int), σ = [some (.ref a), some (.ref o), v2, v3, v4, some (.ref D), v6, v7, none] ∧ Same H H2 ∧ DictAt H2 D ks (fun r => TCR.val L r + TCR.val (M.take i) r) ∧ ks.length ≤ L.length + i)
      ⟨none, none, none, none, none, ks1, rfl, sm1, hD1.imp fun r => by show TCR.val L r = TCR.val L r + 0; grind, lk1⟩ (fun i σ H2 _ hP => ?_) (fun i x σ H2 H3 hi hP hy => ?_) (fun σ H2 hP => ?_)
    · obtain ⟨_, _, _, _, _, _, _, sm, _⟩ := hP
      refine hG H2 fun u eu => ?_
      rcases ho with ho | ho
      · rw [sm1 _ _ ho] at eu
        rw [← eu]
        exact sm _ _ ho
      · rw [sm1 _ _ ho] at eu
        rw [← eu]
        exact sm _ _ ho
    · obtain ⟨rfl, hx⟩ := hy
      obtain ⟨v2, v3, v4, v6, v7, ks, rfl, sm, hD2, lk⟩ := hP
      obtain ⟨u, y, rfl, hu', hy, hyv⟩ := (hM.same sm).get hx
      have il : i < M.length := (List.getElem?_eq_some_iff.mp hy).1
      have t0 := (TCR.val_take cM y.1 hy).1
      have t1 := fun s => (TCR.val_take cM s hy).2
      refine ⟨u, _, rfl, SqT.of hyv, rfl, _, _, rfl, _, _, rfl, _, _, rfl, rfl, ?_⟩
      obtain ⟨kvs, e1, e2, e3, e4, e5⟩ := id hD2
      by_cases hk : y.1 ∈ ks
      · obtain ⟨u1, f1, f2⟩ := e3 y.1 hk
        refine ⟨_, rfl, _, rfl, D, _, rfl, dget_in e1 f1, _, rfl, iteT ?_⟩
        refine ⟨_, rfl, _, rfl, D, _, rfl, dget_in e1 f1, u1, _, rfl, SqT.of f2, rfl, _, _, rfl, _, _, rfl, rfl, ?_⟩
        have zg : TCR.Sz A (TCR.val L y.1 + TCR.val (M.take i) y.1) := by
          rw [t0]
          have z := TCR.Sz.val A0 zL y.1
          have e : TCR.val L y.1 + 0 = TCR.val L y.1 := by grind
          rw [e]
          exact z
        refine ⟨_, rfl, _, rfl, _, rfl, _, rfl, _, y.2, A, B, rfl, zg, zM y (List.mem_of_getElem? hy), A0, B0, by omega, fun c hc => ?_⟩
        have smc := same_upd (o := fraV (TCR.val L y.1 + TCR.val (M.take i) y.1 + y.2)) hc
        obtain ⟨kvs', e1', e2', e3', e4', e5'⟩ := hD2.same smc
        refine ⟨_, rfl, _, rfl, D, _, rfl, DPut.k (k := Sum.inl y.1) e1' (small1000 (by rw [len_keys e2']; omega)), ?_⟩
        refine ⟨_, _, _, _, _, addKey ks y.1, rfl, same_at (sm.trans smc) hD, ?_, ?_⟩
        · refine (put_ok (r := y.1) e1' e2' e3' e4' e5' upd_same).imp fun s => ?_
          rw [t1 s]
          unfold setF
          by_cases es : s = y.1
          · rw [if_pos es, if_pos es, es, t0]
            grind
          · rw [if_neg es, if_neg es]
        · exact Nat.le_trans (addKey_len ks y.1) (by omega)
      · refine ⟨_, rfl, _, rfl, D, _, rfl, dget_out e1 (valV_out e2 hk), _, rfl, iteF ?_⟩
        refine ⟨_, rfl, _, rfl, by show 2 ≤ sizeLine; decide, fun c hc => ?_⟩
        have smc := same_upd (o := fraV y.2) hc
        obtain ⟨kvs', e1', e2', e3', e4', e5'⟩ := hD2.same smc
        refine ⟨_, rfl, _, rfl, D, _, rfl, DPut.k (k := Sum.inl y.1) e1' (small1000 (by rw [len_keys e2']; omega)), ?_⟩
        refine ⟨_, _, _, _, _, addKey ks y.1, rfl, same_at (sm.trans smc) hD, ?_, ?_⟩
        · refine (put_ok (r := y.1) (q := y.2) e1' e2' e3' e4' e5' upd_same).imp fun s => ?_
          rw [t1 s]
          unfold setF
          by_cases es : s = y.1
          · have z : TCR.val L y.1 + TCR.val (M.take i) y.1 = 0 := e5 y.1 hk
            rw [if_pos es, if_pos es, es]
            rw [t0] at z
            grind
          · rw [if_neg es, if_neg es]
        · exact Nat.le_trans (addKey_len ks y.1) (by omega)
    obtain ⟨v2, v3, v4, v6, v7, ks, rfl, sm2, hD2, lk⟩ := hP
    rw [List.length_map, hM.len, List.take_length] at hD2
    rw [List.length_map, hM.len] at lk
    generalize hg : (fun r => TCR.val L r + TCR.val M r) = g at hD2
    have hgv : ∀ r, g r = TCR.val L r + TCR.val M r := fun r => by rw [← hg]
    -- kept
    refine ⟨Nat.zero_le _, fun l hl => ?_⟩
    have sm3 := same_upd (o := .lst []) hl
    obtain ⟨kvs, e1, e2, e3, e4, e5⟩ := hD2.same sm3
    have elist : kvs.map (fun kv => kV kv.1) = ks.map V.int := by
      have z := congrArg (List.map kV) e2
      rw [List.map_map, List.map_map] at z
      exact z
    refine ⟨_, rfl, D, kvs, rfl, .inl e1, fun l2 hl2 => ?_⟩
    rw [elist]
    have sm4 := same_upd (o := .lst (ks.map V.int)) hl2
    refine ⟨l2, ks, rfl, SqL.of upd_same, by omega, fun ns l3 hperm hsort hl3 => ?_⟩
    have sm5 := same_upd (o := .lst (ns.map V.int)) hl3
    have ndn : ns.Nodup := hperm.nodup_iff.mpr e4
    have nl3 : l ≠ l3 := ne_of_none (sm4 l _ (upd_same (H := H2))) hl3
    have nDl : D ≠ l := by
      obtain ⟨_, z, _⟩ := hD2
      exact ne_of_none z hl
    have smA := sm2.trans (sm3.trans (sm4.trans sm5))
    have nHl : H l = none := sm2.free hl
    have nHl3 : H l3 = none := (sm2.trans (sm3.trans sm4)).free hl3
    refine ⟨l3, rfl, ⟨_, SqL.of upd_same⟩, for_list (xs := ns.map V.int) (fun i σ H' => ∃ (w2 w3 w4 : Option V) (vs : List Addr), σ = [some (.ref a), some (.ref o), w2, w3, w4, some (.ref D), v6, v7, some (.ref l)] ∧ Same H H' ∧ H' l = some (.lst (vs.map V.ref)) ∧ H' l3 = some (.lst (ns.map V.int)) ∧ DictAt H' D ks g ∧ Refs H' vs (TCR.kept g (ns.take i)))
      ⟨v2, v3, v4, [], rfl, smA, sm5 _ _ (sm4 _ _ upd_same), upd_same, hD2.same (sm3.trans (sm4.trans sm5)), trivial⟩ (fun i σ H' _ hP => ?_) (fun i x σ H' hx hP => ?_) (fun σ H' hP => ?_)⟩
    · obtain ⟨_, _, _, _, _, _, _, z, _⟩ := hP
      exact SqL.of z
    · obtain ⟨w2, w3, w4, vs, rfl, sm, el, el3, hD3, hR⟩ := hP
      rw [List.getElem?_map] at hx
      obtain ⟨r, hr', rfl⟩ : ∃ r, ns[i]? = some r ∧ V.int r = x := by
        cases e : ns[i]? with
        | none =>
          rw [e] at hx
          cases hx
        | some p =>
          rw [e] at hx
          exact ⟨p, rfl, Option.some.inj hx⟩
      have rk : r ∈ ks := hperm.mem_iff.mp (List.mem_of_getElem? hr')
      have etake : ns.take (i + 1) = ns.take i ++ [r] := by
        rw [List.take_add_one, hr']
        rfl
      obtain ⟨kvs3, d1, d2, d3, d4, d5⟩ := id hD3
      obtain ⟨u1, f1, f2⟩ := d3 r rk
      refine ⟨_, rfl, _, rfl, D, _, rfl, dget_in d1 f1, u1, _, rfl, SqT.of f2, rfl, _, _, rfl, _, _, rfl, rfl, ?_⟩
      refine ⟨_, rfl, rfl, _, rfl, ?_⟩
      by_cases hz : g r = 0
      · have hn0 : (g r).num = 0 := by rw [hz]; rfl
        refine iteNS (congrArg V.int hn0) ?_
        refine ⟨_, _, _, vs, rfl, sm, el, el3, hD3, ?_⟩
        rw [etake, TCR.kept_snoc, if_neg (by simpa using hz), List.append_nil]
        exact hR
      · have hn0 : (g r).num ≠ 0 := fun e => hz (Rat.num_eq_zero.mp e)
        refine iteNT (ine hn0) ?_
        refine ⟨_, rfl, .inl ⟨rfl, _, SqL.of el⟩, _, rfl, _, rfl, _, rfl, by show 3 ≤ sizeLine; decide, fun c hc => ?_⟩
        have smc := same_upd (o := parV (r, g r)) hc
        have vlen : vs.length ≤ 60 := by
          have z1 := hR.len
          have z2 := TCR.kept_len g (ns.take i)
          have z3 : (ns.take i).length ≤ ns.length := by
            rw [List.length_take]
            exact Nat.min_le_right ..
          have z4 := hperm.length_eq
          omega
        have ncl : c ≠ l := (ne_of_none el hc).symm
        refine ⟨l, _, _, rfl, rfl, smc _ _ el, small1000 (by rw [List.length_map]; omega), ?_⟩
        have hl' : ∀ x, (upd H' c (parV (r, g r))) l ≠ some (parV x) := fun x e => by
          rw [smc _ _ el] at e
          cases e
        refine ⟨_, _, _, vs ++ [c], rfl, same_at (sm.trans smc) nHl, ?_, ?_, ?_, ?_⟩
        · rw [upd_same, List.map_append]
          rfl
        · rw [upd_ne nl3.symm]
          exact smc _ _ el3
        · obtain ⟨kvs4, g1, g2, g3, g4, g5⟩ := hD3.same smc
          refine ⟨kvs4, ?_, g2, fun s hs => ?_, g4, g5⟩
          · rw [upd_ne nDl]
            exact g1
          · obtain ⟨u2, k1, k2⟩ := g3 s hs
            refine ⟨u2, k1, ?_⟩
            rw [upd_ne fun e => by
              rw [e, smc _ _ el] at k2
              cases k2]
            exact k2
        · rw [etake, TCR.kept_snoc, if_pos (by simpa using hz)]
          refine Refs.upd hl' (Refs.snoc upd_same (hR.same smc))
    · obtain ⟨w2, w3, w4, vs, rfl, sm, el, el3, hD3, hR⟩ := hP
      rw [List.length_map, List.take_length] at hR
      refine ⟨_, rfl, l, _, rfl, .inl ⟨SqL.of el, fun p hp => ?_⟩⟩
      have smp := same_upd (o := .tup (vs.map V.ref)) hp
      refine q p (TCR.kept g ns) _ (sm.trans smp) (sm.free hp) ⟨vs, upd_same, hR.same smp⟩ (TCR.canon_kept g ndn hsort) (fun r => ?_) ?_
      · rw [TCR.val_kept g r fun z => e5 r fun m => z (hperm.mem_iff.mpr m), hgv]
      · have z2 := TCR.kept_len g ns
        have z4 := hperm.length_eq
        omega
end
end TC
namespace TC
open PySem PySem.Spec PyProof.Rows L2 TCA
def Good (A : Nat) (L : List Part) : Prop := TCR.Canon L ∧ ∀ x ∈ L, TCR.Sz A x.2
theorem good_of {N : List Part} {A : Nat} (c : TCR.Canon N) (h : ∀ r, TCR.Sz A (TCR.val N r)) : Good A N := ⟨c, fun x hx => by
  rw [← c.mem hx]
  exact h _⟩
theorem Good.val {N : List Part} {A : Nat} (h : Good A N) (h0 : 0 < A) (r : Int) : TCR.Sz A (TCR.val N r) := TCR.Sz.val h0 h.2 r
theorem Good.mono {N : List Part} {A B : Nat} (h : Good A N) (l : A ≤ B) : Good B N := ⟨h.1, fun x hx => (h.2 x hx).mono l⟩
theorem Good.nil {A : Nat} : Good A [] := ⟨TCR.canon_nil, fun x hx => by cases hx⟩
theorem negL_len (L : List Part) : (TCR.negL L).length = L.length := List.length_map ..
theorem negL_snoc (L : List Part) (x : Part) : TCR.negL (L ++ [x]) = TCR.negL L ++ [(x.1, -x.2)] := List.map_append ..
section
variable {P : Program} {w : World} {K : PySem.W.Frag} {mg : Str → Option Value} {base : Heap} {f : Addr} {fd : FuncData} {C fI fQ : Addr}
/-! ### plus, minus -/
def spPlus (C : Addr) : Sp := fun vs H Q _ => ∃ (x y : Addr) (L M : List Part) (A B : Nat), vs = [.ref x, .ref y] ∧ NumAt C H x L ∧ NumAt C H y M ∧ Good A L ∧ Good B M ∧ 0 < A ∧ 0 < B ∧ A + B ≤ 7000 ∧ L.length + M.length ≤ 60 ∧
  ∀ z N H', Same H H' → H z = none → NumAt C H' z N → Good (A + B + 1) N → (∀ r, TCR.val N r = TCR.val L r + TCR.val M r) → N.length ≤ L.length + M.length → Q (.ref z) H'
theorem scPlus : FnScope ["one", "other"] ["one", "other"] (defScope sPlus) := ⟨rfl, rfl, rfl, by decide +kernel, rfl, by decide +kernel, by decide +kernel⟩
theorem ok_plus {fN fM : Addr} {fdN fdM fdI : FuncData} (F : FnP K "plus" sPlus f fd) (T : TxtN K mg C fI fQ) (GN : FnOk P w K mg base CX0 1 fN fdN ["thing"] (spNeed C)) (bN : L2.Binds K fdN ["thing"] []) (kN : PySem.W.keepIn K (.ref fN) = true) (gN : mg "need_exact" = some (.ref fN))
    (GM : FnOk P w K mg base CX0 3 fM fdM ["parts", "others"] spMerged) (bM : L2.Binds K fdM ["parts", "others"] []) (kM : PySem.W.keepIn K (.ref fM) = true) (gM : mg "merged" = some (.ref fM))
    (GI : FnOk P w K mg base CX0 1 fI fdI ["self", "parts"] (spInit C)) (bI : L2.Binds K fdI ["self", "parts"] []) : FnOk P w K mg base CX0 4 f fd ["one", "other"] (spPlus C) := by
  refine F.ok scPlus (fun vs H Q E h => ?_) (fun cdv Ar outer s H vs Q E hr h => ?_)
  · obtain ⟨x, y, L, M, A, B, rfl, _⟩ := h
    rfl
  · obtain ⟨x, y, L, M, A, B, rfl, hx, hy, gL, gMm, A0, B0, AB, len, q⟩ := h
    have hr1 := hr.mono (j := 1) (by decide)
    refine ⟨_, PSs.nox (pss_cons (ps_expr (pe_call GN hr1 (by rfl) gN kN bN .nil pass0 (pa_cons (pv 0) pa_nil)))
      (pss_cons (ps_expr (pe_call GN hr1 (by rfl) gN kN bN .nil pass0 (pa_cons (pv 1) pa_nil)))
      (pss_one (ps_ret (pe_make T.mkr GI (hr.mono (by decide)) (by rfl) T.mgC bI .nil pass0 (pa_cons (pe_call GM hr (by rfl) gM kM bM .nil pass0 (pa_cons (pe_fld (pv 0) rfl) (pa_cons (pe_fld (pv 1) rfl) pa_nil))) pa_nil)))))), ?_⟩
    refine ⟨_, rfl, x, L, rfl, hx, ?_⟩
    refine ⟨_, rfl, y, M, rfl, hy, ?_⟩
    obtain ⟨dx, p, hx1, hp⟩ := hx
    obtain ⟨dy, p', hy1, us, hp1, hp2⟩ := hy
    refine ⟨_, rfl, x, C, dx, _, _, rfl, hx1, T.cl, T.nP, rfl, _, rfl, y, C, dy, _, _, rfl, hy1, T.cl, T.nP, rfl, ?_⟩
    refine ⟨p, p', L, M, us, A, B, rfl, hp, gL.1, .inl hp1, hp2, gMm.1, gL.2, gMm.2, A0, B0, AB, len, fun r N H' sm hr' hN cN vN lN => ?_⟩
    refine made_num (C := C) hN fun z H2 sm2 hz hZ => q z N H2 (sm.trans sm2) (sm.free hz) hZ (good_of cN fun r => ?_) vN lN
    rw [vN]
    exact (gL.val A0 r).add (gMm.val B0 r)
end
end TC
namespace TC
open PySem PySem.Spec PyProof.Rows L2 TCA
/-- a dict of roots to whole tops -/
def IntD (H : Hp) (d : Addr) (ks : List Int) (t : Int → Int) : Prop := ∃ kvs, H d = some (.dK kvs) ∧ kvs.map (·.1) = ks.map (Sum.inl : Int → Key) ∧ (∀ r ∈ ks, valV kvs (Sum.inl r : Key) = some (.int (t r))) ∧ ks.Nodup ∧ ∀ r, r ∉ ks → t r = 0
theorem IntD.same {H H' : Hp} {d : Addr} {ks : List Int} {t : Int → Int} (e : Same H H') (h : IntD H d ks t) : IntD H' d ks t := by
  obtain ⟨kvs, h1, h2⟩ := h
  exact ⟨kvs, e _ _ h1, h2⟩
theorem IntD.upd {H : Hp} {d l : Addr} {o : HO} {ks : List Int} {t : Int → Int} (n : d ≠ l) (h : IntD H d ks t) : IntD (L2.upd H l o) d ks t := by
  obtain ⟨kvs, h1, h2⟩ := h
  exact ⟨kvs, by rw [upd_ne n]; exact h1, h2⟩
theorem IntD.imp {H : Hp} {d : Addr} {ks : List Int} {t t' : Int → Int} (h : IntD H d ks t) (e : ∀ r, t r = t' r) : IntD H d ks t' := by
  have : t = t' := funext e
  rw [← this]
  exact h
theorem divInt_zero (b : Int) : Rat.divInt 0 b = 0 := Rat.zero_divInt b
theorem divInt_ne {t b : Int} (hb : b ≠ 0) (ht : t ≠ 0) : Rat.divInt t b ≠ 0 := fun e => by
  rw [← divInt_zero 1, Rat.divInt_eq_divInt_iff hb (by decide)] at e
  simp at e
  exact ht e
section
variable {P : Program} {w : World} {K : PySem.W.Frag} {mg : Str → Option Value} {base : Heap} {f : Addr} {fd : FuncData} {C fI fQ : Addr}
/-! ### lowered, of many roots -/
def spLowered (C : Addr) : Sp := fun vs H Q _ => ∃ (d : Addr) (ks : List Int) (t : Int → Int) (b : Int) (A : Nat), vs = [.ref d, .int b] ∧ IntD H d ks t ∧ b ≠ 0 ∧ b.natAbs < 2 ^ A ∧ 0 < A ∧ A ≤ 8000 ∧ ks.length ≤ 5000 ∧
  ∀ x N H', Same H H' → H x = none → NumAt C H' x N → TCR.Canon N → (∀ r, TCR.val N r = Rat.divInt (t r) b) → N.length ≤ ks.length → Q (.ref x) H'
theorem scLowered : FnScope ["tops", "bottom", "parts", "root", "top", "below"] ["tops", "bottom"] (defScope sLowered) := ⟨rfl, rfl, rfl, by decide +kernel, rfl, by decide +kernel, by decide +kernel⟩
theorem ok_lowered {fL : Addr} {fdL fdI : FuncData} (F : FnP K "lowered" sLowered f fd) (T : TxtN K mg C fI fQ) (GL : FnOk P w K mg base CX0 2 fL fdL ["top", "bottom"] spLowest) (bL : L2.Binds K fdL ["top", "bottom"] []) (kL : PySem.W.keepIn K (.ref fL) = true) (gL : mg "in_lowest" = some (.ref fL))
    (GI : FnOk P w K mg base CX0 1 fI fdI ["self", "parts"] (spInit C)) (bI : L2.Binds K fdI ["self", "parts"] []) (gs : mg "sorted" = none) (gl : mg "list" = none) (gt : mg "tuple" = none) : FnOk P w K mg base CX0 3 f fd ["tops", "bottom"] (spLowered C) := by
  refine F.ok scLowered (fun vs H Q E h => ?_) (fun cdv Ar outer s H vs Q E hr h => ?_)
  · obtain ⟨d, ks, t, b, A, rfl, _⟩ := h
    rfl
  · obtain ⟨d, ks, t, b, A, rfl, hd, hb, hz, A0, A8, len, q⟩ := h
    have hu := hu_of hr
    refine ⟨_, PSs.nox (pss_cons (ps_set (i := 2) scLowered.nd rfl (.inl rfl) (pe_lst pa_nil))
      (pss_cons (ps_for PassesOwn.never rfl (pi_list (pe_callB cr_sortedI (by rfl) gs (by decide +kernel) (pa_cons (pe_callTy (call_listD rfl) (by rfl) gl (by decide +kernel) (pa_cons (pv 0) pa_nil)) pa_nil))) (pg_name (i := 3) scLowered.nd rfl (.inl rfl))
        (pss_one (ps_if (pt_cmpR op_ne (pe_dget hu (pv 0) (pv 3) (fun _ _ => rfl)) pe_int (nomark _))
          (pss_cons (ps_asg (pe_call GL hr (by rfl) gL kL bL .nil pass0 (pa_cons (pe_dget hu (pv 0) (pv 3) (fun _ _ => rfl)) (pa_cons (pv 1) pa_nil))) (pg_tup rfl (pgs_cons (pg_name (i := 4) scLowered.nd rfl (.inl rfl)) (pgs_cons (pg_name (i := 5) scLowered.nd rfl (.inl rfl)) pgs_nil))))
          (pss_one (ps_expr (pe_bm PySem.F.plainAttrs_list PySem.F.slot_list_append PySem.F.type_list_append mt_append (pv 2) (pa_cons (pe_tup (pa_cons (pv 3) (pa_cons (pv 4) (pa_cons (pv 5) pa_nil)))) pa_nil))))) pss_nil)))
      (pss_one (ps_ret (pe_make T.mkr GI (hr.mono (by decide)) (by rfl) T.mgC bI .nil pass0 (pa_cons (pe_callTy call_tuple_of (by rfl) gt (by decide +kernel) (pa_cons (pv 2) pa_nil)) pa_nil)))))), ?_⟩
    refine ⟨Nat.zero_le _, fun l hl => ?_⟩
    have sm3 := same_upd (o := .lst []) hl
    obtain ⟨kvs, e1, e2, e3, e4, e5⟩ := hd.same sm3
    have elist : kvs.map (fun kv => kV kv.1) = ks.map V.int := by
      have z := congrArg (List.map kV) e2
      rw [List.map_map, List.map_map] at z
      exact z
    refine ⟨_, rfl, d, kvs, rfl, .inl e1, fun l2 hl2 => ?_⟩
    rw [elist]
    have sm4 := same_upd (o := .lst (ks.map V.int)) hl2
    refine ⟨l2, ks, rfl, SqL.of upd_same, fun ns l3 hperm hsort hl3 => ?_⟩
    have sm5 := same_upd (o := .lst (ns.map V.int)) hl3
    have ndn : ns.Nodup := hperm.nodup_iff.mpr e4
    have nl3 : l ≠ l3 := ne_of_none (sm4 l _ (upd_same (H := H))) hl3
    have ndl : d ≠ l := by
      obtain ⟨_, z, _⟩ := hd
      exact ne_of_none z hl
    have smA := sm3.trans (sm4.trans sm5)
    refine ⟨l3, rfl, ⟨_, SqL.of upd_same⟩, for_list (xs := ns.map V.int) (fun i σ H' => ∃ (w3 w4 w5 : Option V) (vs : List Addr), σ = [some (.ref d), some (.int b), some (.ref l), w3, w4, w5] ∧ Same H H' ∧ H' l = some (.lst (vs.map V.ref)) ∧ H' l3 = some (.lst (ns.map V.int)) ∧ IntD H' d ks t ∧ Refs H' vs (TCR.kept (fun r => Rat.divInt (t r) b) (ns.take i)))
      ⟨none, none, none, [], rfl, smA, sm5 _ _ (sm4 _ _ upd_same), upd_same, hd.same smA, trivial⟩ (fun i σ H' _ hP => ?_) (fun i x σ H' hx hP => ?_) (fun σ H' hP => ?_)⟩
    · obtain ⟨_, _, _, _, _, _, _, z, _⟩ := hP
      exact SqL.of z
    · obtain ⟨w3, w4, w5, vs, rfl, sm, el, el3, hD3, hR⟩ := hP
      rw [List.getElem?_map] at hx
      obtain ⟨r, hr', rfl⟩ : ∃ r, ns[i]? = some r ∧ V.int r = x := by
        cases e : ns[i]? with
        | none =>
          rw [e] at hx
          cases hx
        | some p =>
          rw [e] at hx
          exact ⟨p, rfl, Option.some.inj hx⟩
      have rk : r ∈ ks := hperm.mem_iff.mp (List.mem_of_getElem? hr')
      have etake : ns.take (i + 1) = ns.take i ++ [r] := by
        rw [List.take_add_one, hr']
        rfl
      obtain ⟨kvs3, d1, d2, d3, d4, d5⟩ := id hD3
      have dg := dget_in d1 (d3 r rk)
      refine ⟨_, rfl, _, rfl, d, _, rfl, dg, rfl, _, rfl, ?_⟩
      by_cases ht : t r = 0
      · refine iteNS (congrArg V.int ht) ?_
        refine ⟨_, _, _, vs, rfl, sm, el, el3, hD3, ?_⟩
        rw [etake, TCR.kept_snoc, if_neg (by rw [ht, divInt_zero]; simp), List.append_nil]
        exact hR
      · refine iteNT (ine ht) ?_
        refine ⟨_, rfl, _, rfl, d, _, rfl, dg, _, rfl, t r, b, A, rfl, hb, hz, A0, A8, fun c hc => ?_⟩
        refine ⟨c, _, rfl, SqT.of upd_same, rfl, _, _, rfl, _, _, rfl, rfl, ?_⟩
        have smc : Same H' (upd H' c (.tup [.int (TCM.low (t r) b).1, .int (TCM.low (t r) b).2])) := same_upd hc
        refine ⟨_, rfl, .inl ⟨rfl, _, SqL.of (smc _ _ el)⟩, _, rfl, _, rfl, _, rfl, by show 3 ≤ sizeLine; decide, fun u hu2 => ?_⟩
        have epar : HO.tup [.int r, .int (TCM.low (t r) b).1, .int (TCM.low (t r) b).2] = parV (r, Rat.divInt (t r) b) := by
          rw [TCR.low_rat (t r) b hb]
          rfl
        rw [epar]
        have smu := same_upd (o := parV (r, Rat.divInt (t r) b)) hu2
        have vlen : vs.length ≤ 5000 := by
          have z1 := hR.len
          have z2 := TCR.kept_len (fun r => Rat.divInt (t r) b) (ns.take i)
          have z3 : (ns.take i).length ≤ ns.length := by
            rw [List.length_take]
            exact Nat.min_le_right ..
          have z4 := hperm.length_eq
          omega
        have elu := smu _ _ (smc _ _ el)
        refine ⟨l, _, _, rfl, rfl, elu, Nat.lt_of_le_of_lt (m := 5000) (by rw [List.length_map]; omega) (by decide), ?_⟩
        have hl' : ∀ x, (upd (upd H' c (.tup [.int (TCM.low (t r) b).1, .int (TCM.low (t r) b).2])) u (parV (r, Rat.divInt (t r) b))) l ≠ some (parV x) := fun x e => by
          rw [elu] at e
          cases e
        refine ⟨_, _, _, vs ++ [u], rfl, same_at ((sm.trans smc).trans smu) hl, ?_, ?_, ((hD3.same smc).same smu).upd ndl, ?_⟩
        · rw [upd_same, List.map_append]
          rfl
        · rw [upd_ne nl3.symm]
          exact smu _ _ (smc _ _ el3)
        · rw [etake, TCR.kept_snoc, if_pos (divInt_ne hb ht)]
          exact Refs.upd hl' (Refs.snoc upd_same ((hR.same smc).same smu))
    · obtain ⟨w3, w4, w5, vs, rfl, sm, el, el3, hD3, hR⟩ := hP
      rw [List.length_map, List.take_length] at hR
      refine ⟨_, rfl, l, _, rfl, .inl ⟨SqL.of el, fun p hp => ?_⟩⟩
      have smp := same_upd (o := .tup (vs.map V.ref)) hp
      refine made_num (C := C) (L := TCR.kept (fun r => Rat.divInt (t r) b) ns) ⟨vs, upd_same, hR.same smp⟩ fun x H2 sm2 hx hN => q x _ H2 ((sm.trans smp).trans sm2) ((sm.trans smp).free hx) hN (TCR.canon_kept _ ndn hsort) (fun r => ?_) ?_
      · refine TCR.val_kept (fun r => Rat.divInt (t r) b) r fun z => ?_
        show Rat.divInt (t r) b = 0
        rw [e5 r fun m => z (hperm.mem_iff.mpr m), divInt_zero]
      · have z2 := TCR.kept_len (fun r => Rat.divInt (t r) b) ns
        have z4 := hperm.length_eq
        omega
end
end TC
namespace TC
open PySem PySem.Spec PyProof.Rows L2 TCA
def setI (t : Int → Int) (r z : Int) : Int → Int := fun s => if s = r then z else t s
theorem putI_ok {H : Hp} {d : Addr} {kvs : List (Key × V)} {ks : List Int} {t : Int → Int} {r z : Int} (ek : kvs.map (·.1) = ks.map (Sum.inl : Int → Key))
    (hv : ∀ r ∈ ks, valV kvs (Sum.inl r : Key) = some (.int (t r))) (nd : ks.Nodup) (out : ∀ r, r ∉ ks → t r = 0) :
    IntD (upd H d (.dK (putK kvs (Sum.inl r : Key) (.int z)))) d (addKey ks r) (setI t r z) := by
  refine ⟨_, upd_same, keys_put ek, fun s hs => ?_, nd_addKey nd, fun s hs => ?_⟩
  · rw [valV_put]
    by_cases es : s = r
    · rw [es, if_pos rfl]
      show some (V.int z) = some (V.int (if r = r then z else t r))
      rw [if_pos rfl]
    · have hs' : s ∈ ks := (mem_addKey.mp hs).resolve_right es
      rw [if_neg (inl_ne es), hv s hs']
      show _ = some (V.int (if s = r then z else t s))
      rw [if_neg es]
  · have h1 : s ∉ ks := fun z => hs (mem_addKey.mpr (.inl z))
    have h2 : s ≠ r := fun z => hs (mem_addKey.mpr (.inr z))
    show (if s = r then z else t s) = 0
    rw [if_neg h2, out s h1]
/-- the tops over one bottom -/
def topsOf (L : List Part) (c : Nat) (r : Int) : Int := (TCR.val L r).num * ((c / (TCR.val L r).den : Nat) : Int)
theorem topsOf_div {L : List Part} {c : Nat} (hc : 0 < c) (r : Int) (h : (TCR.val L r).den ∣ c) : Rat.divInt (topsOf L c r) (c : Int) = TCR.val L r := by
  have dp := (TCR.val L r).den_pos
  have d0 : ((TCR.val L r).den : Int) ≠ 0 := by omega
  have c0 : ((c : Nat) : Int) ≠ 0 := by omega
  have e : Rat.divInt (topsOf L c r) (c : Int) = Rat.divInt (TCR.val L r).num ((TCR.val L r).den : Int) := by
    rw [Rat.divInt_eq_divInt_iff c0 d0]
    unfold topsOf
    rw [Int.mul_assoc]
    congr 1
    rw [← Int.natCast_mul, Nat.div_mul_cancel h]
  rw [e, Rat.num_divInt_den]
theorem den_val {L : List Part} {D : Nat} (h : ∀ x ∈ L, x.2.den ∣ D) (c : TCR.Canon L) (r : Int) : (TCR.val L r).den ∣ D := by
  rcases Classical.em (∃ q, (r, q) ∈ L) with ⟨q, z⟩ | z
  · rw [c.mem z]
    exact h _ z
  · rw [TCR.val_not fun x hx e => z ⟨x.2, by rw [← e]; exact hx⟩]
    exact Nat.one_dvd _
section
variable {P : Program} {w : World} {K : PySem.W.Frag} {mg : Str → Option Value} {base : Heap} {f : Addr} {fd : FuncData} {C fI fQ : Addr}
/-! ### on_one_bottom -/
def spOneB : Sp := fun vs H Q _ => ∃ (p : Addr) (L : List Part) (D A B : Nat), vs = [.ref p] ∧ PartsL H p L ∧ TCR.Canon L ∧ (∀ x ∈ L, x.2.den ∣ D) ∧ 0 < D ∧ D < 2 ^ B ∧ 0 < B ∧ B ≤ 8000 ∧ (∀ x ∈ L, x.2.num.natAbs < 2 ^ A) ∧ 0 < A ∧ A ≤ 20000 ∧ L.length ≤ 1000 ∧
  ∀ (v d : Addr) (c : Nat) H', Same H H' → H v = none → H' v = some (.tup [.ref d, .int (c : Int)]) → H d = none → IntD H' d (L.map (·.1)) (topsOf L c) → 0 < c → c ∣ D → (∀ x ∈ L, x.2.den ∣ c) → Q (.ref v) H'
theorem scOneB : FnScope ["parts", "common", "root", "top", "bottom"] ["parts"] (defScope sOneBottom) := ⟨rfl, rfl, rfl, by decide +kernel, rfl, by decide +kernel, by decide +kernel⟩
theorem ok_oneB {fS : Addr} {fdS : FuncData} (F : FnP K "on_one_bottom" sOneBottom f fd) (GS : FnOk P w K mg base CX0 1 fS fdS ["one", "other"] spShared) (bS : L2.Binds K fdS ["one", "other"] []) (kS : PySem.W.keepIn K (.ref fS) = true) (gS : mg "shared" = some (.ref fS)) :
    FnOk P w K mg base CX0 2 f fd ["parts"] spOneB := by
  refine F.ok scOneB (fun vs H Q E h => ?_) (fun cdv Ar outer s H vs Q E hr h => ?_)
  · obtain ⟨p, L, D, A, B, rfl, _⟩ := h
    rfl
  · obtain ⟨p, L, D, A, B, rfl, ⟨us, hp, hL⟩, cL, dD, D0, DB, B0, B8, zA, A0, A2, len, q⟩ := h
    have hu := hu_of hr
    refine ⟨_, PSs.nox (pss_cons (ps_set (i := 1) scOneB.nd rfl (.inr rfl) pe_int)
      (pss_cons (ps_for PassesOwn.never rfl (pi_tup (pv 0)) (pg_tup rfl (pgs_cons (pg_name (i := 2) scOneB.nd rfl (.inl rfl)) (pgs_cons (pg_name (i := 3) scOneB.nd rfl (.inl rfl)) (pgs_cons (pg_name (i := 4) scOneB.nd rfl (.inl rfl)) pgs_nil))))
        (pss_one (ps_set (i := 1) scOneB.nd rfl (.inr rfl) (pe_op op_mulW (pe_op op_fdivNW (pv 1) (pe_call GS hr (by rfl) gS kS bS .nil pass0 (pa_cons (pv 1) (pa_cons (pv 4) pa_nil)))) (pv 4)))))
      (pss_one (ps_ret (pe_tup (pa_cons (pe_dc (own := [("root", 2), ("top", 3), ("bottom", 4)]) (g := gTup K 3 (gCons (gName 2) (gCons (gName 3) (gCons (gName 4) gNil)))) (tt := tYes) (tk := tVar 2) (tv := tOp (rI CMulW fun i j => .int (i * j)) (tVar 3) (tOp (rI CDivNW fun i j => .int (i.fdiv j)) (tVar 1) (tVar 4))) rfl scOneB.nd (pi_tup (pv 0))
          (blkOk_by (N := ["parts", "common", "root", "top", "bottom"]) (sc := defScope sOneBottom) (by decide +kernel))
          (fun _ _ _ _ _ => pg_tup rfl (pgs_cons (pg_name (i := 2) scOneB.nd rfl (.inl rfl)) (pgs_cons (pg_name (i := 3) scOneB.nd rfl (.inl rfl)) (pgs_cons (pg_name (i := 4) scOneB.nd rfl (.inl rfl)) pgs_nil)))) (fun _ _ _ _ _ => pts_nil) (fun _ _ _ _ _ => pv 2) (fun _ _ _ _ _ => pe_op op_mulW (pv 3) (pe_op op_fdivNW (pv 1) (pv 4))))
          (pa_cons (pv 1) pa_nil))))))), ?_⟩
    refine ⟨_, rfl, p, rfl, ⟨_, SqT.of hp⟩, for_tup (xs := us.map V.ref) (fun i σ H' => ∃ (v2 v3 v4 : Option V) (c : Nat), σ = [some (.ref p), some (.int (c : Int)), v2, v3, v4] ∧ H' = H ∧ 0 < c ∧ (∀ x ∈ L.take i, x.2.den ∣ c) ∧ (∀ E, (∀ x ∈ L.take i, x.2.den ∣ E) → c ∣ E))
      ⟨none, none, none, 1, rfl, rfl, by decide, (fun x hx => by simp at hx), fun E _ => Nat.one_dvd E⟩ (fun i σ H' _ hP => ?_) (fun i x σ H' hx hP => ?_) (fun σ H' hP => ?_)⟩
    · obtain ⟨_, _, _, _, _, rfl, _⟩ := hP
      exact SqT.of hp
    · obtain ⟨v2, v3, v4, c, rfl, rfl, c0, cd, cm⟩ := hP
      obtain ⟨u, y, rfl, hu', hy, hyv⟩ := hL.get hx
      have hyL : y ∈ L := List.mem_of_getElem? hy
      have et : L.take (i + 1) = L.take i ++ [y] := by
        rw [List.take_add_one, hy]
        rfl
      have cD : c ∣ D := cm D fun x hx => dD x (List.mem_of_mem_take hx)
      have cB : c < 2 ^ B := Nat.lt_of_le_of_lt (Nat.le_of_dvd D0 cD) DB
      have yB : y.2.den < 2 ^ B := Nat.lt_of_le_of_lt (Nat.le_of_dvd D0 (dD y hyL)) DB
      have dp := y.2.den_pos
      have gp : 0 < Nat.gcd c y.2.den := Nat.gcd_pos_of_pos_left _ c0
      have gB : Nat.gcd c y.2.den < 2 ^ B := Nat.lt_of_le_of_lt (Nat.le_of_dvd c0 (Nat.gcd_dvd_left ..)) cB
      have eg : Int.gcd (c : Int) (y.2.den : Int) = Nat.gcd c y.2.den := by
        rw [Int.gcd_natCast_natCast]
      have el : c / Nat.gcd c y.2.den * y.2.den = Nat.lcm c y.2.den := by
        rw [Nat.lcm, Nat.div_mul_right_comm (Nat.gcd_dvd_left ..)]
      refine ⟨u, _, rfl, SqT.of hyv, rfl, _, _, rfl, _, _, rfl, _, _, rfl, rfl, ?_⟩
      refine ⟨_, rfl, _, rfl, _, rfl, (c : Int), (y.2.den : Int), rfl, ?_⟩
      rw [eg]
      refine ⟨(c : Int), ((Nat.gcd c y.2.den : Nat) : Int), rfl, rfl, cdivn gp gB B0 B8, _, rfl, _, (y.2.den : Int), rfl, rfl, ?_, ?_⟩
      · show CMulW ((c : Int).fdiv ((Nat.gcd c y.2.den : Nat) : Int)) (y.2.den : Int)
        rw [fdiv_nat]
        exact cmulw (A := B) (B := B) (by rw [Int.natAbs_natCast]; exact Nat.lt_of_le_of_lt (Nat.div_le_self ..) cB) (by rw [Int.natAbs_natCast]; exact yB) B0 B0 (by omega)
      · refine ⟨some (.int y.1), some (.int y.2.num), some (.int (y.2.den : Int)), Nat.lcm c y.2.den, ?_, rfl, Nat.pos_of_ne_zero (fun z => ?_), fun x hx => ?_, fun E hE => ?_⟩
        · show [some (V.ref p), some (V.int ((c : Int).fdiv ((Nat.gcd c y.2.den : Nat) : Int) * (y.2.den : Int))), some (V.int y.1), some (V.int y.2.num), some (V.int (y.2.den : Int))] = _
          rw [fdiv_nat, ← Int.natCast_mul, el]
        · rcases Nat.lcm_eq_zero_iff.mp z with z | z <;> omega
        · rw [et] at hx
          rcases List.mem_append.mp hx with z | z
          · exact Nat.dvd_trans (cd x z) (Nat.dvd_lcm_left ..)
          · rw [List.mem_singleton.mp z]
            exact Nat.dvd_lcm_right ..
        · rw [et] at hE
          exact Nat.lcm_dvd (cm E fun x hx => hE x (List.mem_append_left _ hx)) (hE y (List.mem_append_right _ (List.mem_singleton.mpr rfl)))
    · obtain ⟨v2, v3, v4, c, rfl, rfl, c0, cd, cm⟩ := hP
      rw [List.length_map, hL.len, List.take_length] at cd cm
      have cD : c ∣ D := cm D dD
      have cB : c < 2 ^ B := Nat.lt_of_le_of_lt (Nat.le_of_dvd D0 cD) DB
      refine ⟨_, rfl, p, rfl, ⟨_, SqT.of hp⟩, fun d hd => dc_tup (xs := us.map V.ref) (fun i H2 => Same H' H2 ∧ IntD H2 d ((L.take i).map (·.1)) (topsOf (L.take i) c)) ?_ (fun i H2 _ hP => SqT.of (hP.1 _ _ hp)) (fun i x H2 hx hP => ?_) (fun H2 hP => ?_)⟩
      · exact ⟨same_upd hd, [], upd_same, rfl, (fun r hr => by cases hr), List.nodup_nil, fun r _ => by unfold topsOf; exact Int.zero_mul _⟩
      · obtain ⟨sm, kvs, e1, e2, e3, e4, e5⟩ := hP
        obtain ⟨u, y, rfl, hu', hy, hyv⟩ := (hL.same sm).get hx
        have hyL : y ∈ L := List.mem_of_getElem? hy
        have il : i < L.length := (List.getElem?_eq_some_iff.mp hy).1
        have et : L.take (i + 1) = L.take i ++ [y] := by
          rw [List.take_add_one, hy]
          rfl
        have dp := y.2.den_pos
        have yB : y.2.den < 2 ^ B := Nat.lt_of_le_of_lt (Nat.le_of_dvd D0 (dD y hyL)) DB
        have t0 := (TCR.val_take cL y.1 hy).1
        have t1 := fun s => (TCR.val_take cL s hy).2
        have nin : y.1 ∉ (L.take i).map (·.1) := fun m => by
          obtain ⟨z, hz, ez⟩ := List.mem_map.mp m
          have cT : TCR.Canon (L.take i) := ⟨cL.srt.sublist (List.take_sublist ..), fun x hx => cL.nz x (List.mem_of_mem_take hx)⟩
          have := cT.mem hz
          rw [ez, t0] at this
          exact cT.nz z hz this.symm
        refine ⟨u, _, rfl, SqT.of hyv, rfl, _, _, rfl, _, _, rfl, _, _, rfl, rfl, rfl, ?_⟩
        refine ⟨_, rfl, _, rfl, _, rfl, _, rfl, (c : Int), (y.2.den : Int), rfl, rfl, cdivn dp yB B0 B8, y.2.num, _, rfl, rfl, ?_, ?_⟩
        · show CMulW y.2.num ((c : Int).fdiv (y.2.den : Int))
          rw [fdiv_nat]
          exact cmulw (A := A) (B := B) (zA y hyL) (by rw [Int.natAbs_natCast]; exact Nat.lt_of_le_of_lt (Nat.div_le_self ..) cB) A0 B0 (by omega)
        · refine ⟨kvs, Sum.inl y.1, rfl, e1, small1000 (by rw [len_keys e2, List.length_map, List.length_take]; omega), same_at sm hd, ?_⟩
          show IntD (upd H2 d (.dK (putK kvs (Sum.inl y.1) (.int (y.2.num * (c : Int).fdiv (y.2.den : Int)))))) d _ _
          rw [fdiv_nat]
          have z := putI_ok (H := H2) (d := d) (r := y.1) (z := y.2.num * ((c / y.2.den : Nat) : Int)) e2 e3 e4 e5
          have ek : addKey ((L.take i).map (·.1)) y.1 = (L.take (i + 1)).map (·.1) := by
            unfold addKey
            rw [if_neg nin, et, List.map_append]
            rfl
          rw [ek] at z
          refine z.imp fun s => ?_
          unfold setI topsOf
          rw [t1 s]
          by_cases es : s = y.1
          · rw [if_pos es, if_pos es]
          · rw [if_neg es, if_neg es]
      · obtain ⟨sm, hI⟩ := hP
        rw [List.length_map, hL.len, List.take_length] at hI
        refine ⟨_, rfl, by show 2 ≤ sizeLine; decide, fun v hv => ?_⟩
        have sv := same_upd (o := .tup [.ref d, .int (c : Int)]) hv
        exact q v d c _ (sm.trans sv) (sm.free hv) upd_same hd (hI.same sv) c0 cD cd
end
end TC
namespace TC
open PySem PySem.Spec PyProof.Rows L2 TCA
theorem dget_rd {H : Hp} {d : Addr} {kvs : List (Key × V)} {r : Int} {v : V} (e : Rd H d (.dK kvs)) (h : valV kvs (Sum.inl r : Key) = some v) : DGet H d (.int r) (some v) := by
  have z : DGet H d (kV (Sum.inl r : Key)) (valV kvs (Sum.inl r : Key)) := .inl ⟨kvs, Sum.inl r, e, rfl, rfl⟩
  rw [h] at z
  exact z
theorem key_at {kvs : List (Key × V)} {ks : List Int} {i : Nat} {k : Key} {v : V} (e : kvs.map (·.1) = ks.map (Sum.inl : Int → Key)) (h : kvs[i]? = some (k, v)) : ∃ r, ks[i]? = some r ∧ k = Sum.inl r := by
  have z : (kvs.map (·.1))[i]? = some k := by
    rw [List.getElem?_map, h]
    rfl
  rw [e, List.getElem?_map] at z
  cases q : ks[i]? with
  | none =>
    rw [q] at z
    cases z
  | some r =>
    rw [q] at z
    exact ⟨r, rfl, (Option.some.inj z).symm⟩
theorem valV_drop {kvs : List (Key × V)} {k j : Key} : valV (dropK kvs k) j = if j = k then none else valV kvs j := by
  induction kvs with
  | nil => simp [dropK, valV]
  | cons p r ih =>
    by_cases e : p.1 = k
    · rw [dropK_pos e, ih]
      by_cases ej : j = k
      · rw [if_pos ej, if_pos ej]
      · rw [if_neg ej, if_neg ej, valV_neg (p := p) fun z => ej (z.symm.trans e)]
    · rw [dropK_neg e]
      by_cases ep : p.1 = j
      · rw [valV_pos ep, valV_pos ep, if_neg fun z => e (ep.trans z)]
      · rw [valV_neg ep, valV_neg ep, ih]
theorem keys_drop {kvs : List (Key × V)} {ks : List Int} {r : Int} (e : kvs.map (·.1) = ks.map (Sum.inl : Int → Key)) : (dropK kvs (Sum.inl r : Key)).map (·.1) = (ks.filter fun s => decide (s ≠ r)).map (Sum.inl : Int → Key) := by
  induction kvs generalizing ks with
  | nil =>
    cases ks with
    | nil => rfl
    | cons a ks => cases e
  | cons p kvs ih =>
    cases ks with
    | nil => cases e
    | cons a ks =>
      have e1 : p.1 = Sum.inl a := (List.cons.inj e).1
      have e2 : kvs.map (·.1) = ks.map (Sum.inl : Int → Key) := (List.cons.inj e).2
      by_cases h : a = r
      · rw [dropK_pos (by rw [e1, h]), List.filter_cons, if_neg (by simp [h])]
        exact ih e2
      · rw [dropK_neg (by rw [e1]; exact inl_ne h), List.filter_cons, if_pos (by simp [h]), List.map_cons, List.map_cons, ih e2, e1]
theorem mem_take_succ {ks : List Int} {i : Nat} {r s : Int} (h : ks[i]? = some r) : s ∈ ks.take (i + 1) ↔ s ∈ ks.take i ∨ s = r := by
  rw [List.take_add_one, h]
  simp
theorem mem_drop_of {ks : List Int} {i : Nat} {r : Int} (h : ks[i]? = some r) : ks.drop i = r :: ks.drop (i + 1) := by
  obtain ⟨hl, e⟩ := List.getElem?_eq_some_iff.mp h
  rw [List.drop_eq_getElem_cons hl, e]
theorem nd_not_take {ks : List Int} (nd : ks.Nodup) {i : Nat} {r : Int} (h : ks[i]? = some r) : r ∉ ks.take i := fun m => by
  obtain ⟨j, hj, e⟩ := List.mem_iff_getElem.mp m
  rw [List.length_take] at hj
  rw [List.getElem_take] at e
  obtain ⟨hl, e2⟩ := List.getElem?_eq_some_iff.mp h
  have := (List.getElem_inj nd (h₀ := by omega) (h₁ := hl)).mp (e.trans e2.symm)
  omega
def Clear (ks : List Int) (g : Int → Rat) : Prop := ∀ r ∈ ks, g r ≠ 0
section
variable {P : Program} {w : World} {K : PySem.W.Frag} {mg : Str → Option Value} {base : Heap} {f : Addr} {fd : FuncData} {C fI fQ : Addr}
/-! ### _law_cleared -/
def spCleared : Sp := fun vs H Q _ => ∃ (d : Addr) (ks : List Int) (g : Int → Rat), vs = [.ref d] ∧ DictAt H d ks g ∧ ks.length ≤ 900 ∧
  ∀ d' ks' H', Same H H' → H d' = none → DictAt H' d' ks' g → Clear ks' g → ks'.length ≤ ks.length → (∀ r ∈ ks', r ∈ ks) → Q (.ref d') H'
theorem scCleared : FnScope ["_law_some", "_law_found", "_law_r"] ["_law_some"] (defScope sCleared) := ⟨rfl, rfl, rfl, by decide +kernel, rfl, by decide +kernel, by decide +kernel⟩
theorem ok_cleared (F : FnP K "_law_cleared" sCleared f fd) (gd : mg "dict" = none) : FnOk P w K mg base CX0 1 f fd ["_law_some"] spCleared := by
  refine F.ok scCleared (fun vs H Q E h => ?_) (fun cdv Ar outer s H vs Q E hr h => ?_)
  · obtain ⟨d, ks, g, rfl, _⟩ := h
    rfl
  · obtain ⟨d, ks, g, rfl, hd, len, q⟩ := h
    have hu := hu_of hr
    refine ⟨_, PSs.nox (pss_cons (ps_set (i := 1) scCleared.nd rfl (.inl rfl) (pe_callTy call_dictD (by rfl) gd (by decide +kernel) (pa_cons (pv 0) pa_nil)))
      (pss_cons (ps_lock (ps_for PassesOwn.never rfl (pi_keys (pv 0)) (pg_name (i := 2) scCleared.nd rfl (.inl rfl))
        (pss_one (ps_if (pt_cmpR op_eq (pe_ix ix_tup (pe_dget hu (pv 0) (pv 2) (fun _ _ => rfl)) pe_int (fun _ _ => rfl)) pe_int (nomark _))
          (pss_one (ps_expr (pe_dpop1 (pv 1) (pv 2) ⟨rfl, rfl, rfl, rfl⟩))) pss_nil))))
      (pss_one (ps_ret (pv 1))))), ?_⟩
    obtain ⟨kvs, e1, e2, e3, e4, e5⟩ := id hd
    refine ⟨_, rfl, d, kvs, rfl, .inl e1, fun p hp => ?_⟩
    have smp := same_upd (o := .dK kvs) hp
    have npd : p ≠ d := (ne_of_none e1 hp).symm
    refine ⟨d, .dK kvs, smp _ _ e1, trivial, fun od => ?_⟩
    refine ⟨_, rfl, d, od, rfl, .inl ⟨kvs, upd_same, ?_⟩⟩
    -- u's are none of d, p
    have nud : ∀ {u : Addr} {q : Rat}, H u = some (fraV q) → u ≠ d := fun {u q} hu z => by
      rw [z, e1] at hu
      cases hu
    refine for_it (walk_keys (d := d) (o := od) (kvs := kvs)) (fun i σ H' => ∃ (v2 : Option V) (ks' : List Int), σ = [some (.ref d), some (.ref p), v2] ∧ H' d = some (.frz od (.dK kvs)) ∧ (∀ b o, H b = some o → b ≠ d → H' b = some o) ∧ DictAt H' p ks' g ∧ ks'.length ≤ ks.length ∧ (∀ r ∈ ks', r ∈ ks) ∧ (∀ r ∈ ks.drop i, r ∈ ks') ∧ ∀ r ∈ ks.take i, r ∈ ks' → g r ≠ 0)
      ⟨none, ks, rfl, upd_same, fun b o e hb => by rw [upd_ne hb]; exact smp _ _ e, ?_, Nat.le_refl _, fun r hr => hr, fun r hr => hr, (fun r hr => by simp at hr)⟩ (fun i σ H' _ hP => ?_) (fun i x σ H' H2 hi hP hy => ?_) (fun σ H' hP => ?_)
    · refine ⟨kvs, by rw [upd_ne npd, upd_same], e2, fun r hr => ?_, e4, e5⟩
      obtain ⟨u, a, b⟩ := e3 r hr
      exact ⟨u, a, by rw [upd_ne (nud b)]; exact smp _ _ b⟩
    · obtain ⟨_, _, _, z, _⟩ := hP
      exact z
    · obtain ⟨rfl, k, v, hkv, rfl⟩ := hy
      obtain ⟨v2, ks', rfl, hfz, keep, hp', l', sub, dr, tk⟩ := hP
      obtain ⟨r, hr', rfl⟩ := key_at e2 hkv
      have rk : r ∈ ks := List.mem_of_getElem? hr'
      obtain ⟨u, a, b⟩ := e3 r rk
      have bu := keep _ _ b (nud b)
      have edr := mem_drop_of hr'
      have rk' : r ∈ ks' := dr r (by rw [edr]; exact List.mem_cons_self ..)
      refine ⟨_, rfl, _, rfl, d, _, rfl, dget_rd (.inr ⟨od, hfz⟩) a, u, _, 0, _, rfl, rfl, SqT.of bu, atI_nat (j := 0) rfl, rfl, _, rfl, ?_⟩
      by_cases hz : g r = 0
      · have hn0 : (g r).num = 0 := by rw [hz]; rfl
        refine iteD1 (congrArg V.int hn0) ?_
        obtain ⟨kv2, f1, f2, f3, f4, f5⟩ := id hp'
        obtain ⟨u2, c1, c2⟩ := f3 r rk'
        refine ⟨_, rfl, p, rfl, .inl ⟨_, .inl f1⟩, _, rfl, kv2, Sum.inl r, _, f1, rfl, c1, ?_⟩
        have nup : ∀ {u : Addr} {q : Rat}, H2 u = some (fraV q) → u ≠ p := fun {u q} hu z => by
          rw [z, f1] at hu
          cases hu
        refine ⟨_, ks'.filter (fun s => decide (s ≠ r)), rfl, by rw [upd_ne npd.symm]; exact hfz, fun b o e hb => ?_, ?_, Nat.le_trans (List.length_filter_le ..) l', fun s hs => sub s (List.mem_filter.mp hs).1, fun s hs => ?_, fun s hs hs' => ?_⟩
        · rw [upd_ne (ne_of_none e hp)]
          exact keep b o e hb
        · refine ⟨_, upd_same, keys_drop f2, fun s hs => ?_, f4.filter _, fun s hs => ?_⟩
          · obtain ⟨hs1, hs2⟩ := List.mem_filter.mp hs
            have sr : s ≠ r := of_decide_eq_true hs2
            obtain ⟨u3, g1, g2⟩ := f3 s hs1
            refine ⟨u3, ?_, by rw [upd_ne (nup g2)]; exact g2⟩
            rw [valV_drop, if_neg (inl_ne sr)]
            exact g1
          · by_cases sr : s = r
            · rw [sr]
              exact hz
            · exact f5 s fun m => hs (List.mem_filter.mpr ⟨m, decide_eq_true sr⟩)
        · have s1 : s ∈ ks.drop i := by
            rw [edr]
            exact List.mem_cons_of_mem _ hs
          refine List.mem_filter.mpr ⟨dr s s1, decide_eq_true fun e => ?_⟩
          have nd2 : (r :: ks.drop (i + 1)).Nodup := by
            rw [← edr]
            exact e4.sublist (List.drop_sublist ..)
          exact (List.nodup_cons.mp nd2).1 (e ▸ hs)
        · obtain ⟨hs1, hs2⟩ := List.mem_filter.mp hs'
          rcases (mem_take_succ hr').mp hs with m | m
          · exact tk s m hs1
          · exact absurd m (of_decide_eq_true hs2)
      · have hn0 : (g r).num ≠ 0 := fun e => hz (Rat.num_eq_zero.mp e)
        refine iteD0 (ine hn0) ?_
        refine ⟨_, ks', rfl, hfz, keep, hp', l', sub, fun s hs => dr s (by rw [edr]; exact List.mem_cons_of_mem _ hs), fun s hs hs' => ?_⟩
        rcases (mem_take_succ hr').mp hs with m | m
        · exact tk s m hs'
        · rw [m]
          exact hz
    · obtain ⟨v2, ks', rfl, hfz, keep, hp', l', sub, dr, tk⟩ := hP
      refine ⟨hfz, _, rfl, ?_⟩
      have lk := len_keys e2
      have smf : Same H (upd H' d (.dK kvs)) := fun b o e => by
        by_cases hb : b = d
        · rw [hb, upd_same]
          rw [hb, e1] at e
          exact e
        · rw [upd_ne hb]
          exact keep b o e hb
      refine q p ks' _ smf hp ?_ (fun r hr => ?_) l' sub
      · obtain ⟨kv2, f1, f2, f3, f4, f5⟩ := hp'
        refine ⟨kv2, by rw [upd_ne npd]; exact f1, f2, fun r hr => ?_, f4, f5⟩
        obtain ⟨u2, c1, c2⟩ := f3 r hr
        refine ⟨u2, c1, ?_⟩
        rw [upd_ne fun z => by
          rw [z, hfz] at c2
          cases c2]
        exact c2
      · refine tk r ?_ hr
        rw [lk, List.take_length]
        exact sub r hr
end
end TC
namespace TC
open PySem PySem.Spec PyProof.Rows L2 TCA
/-! ### sums over pairs of roots -/
def sumI : List Int → Int
  | [] => 0
  | a :: l => a + sumI l
theorem sumI_append : ∀ (l m : List Int), sumI (l ++ m) = sumI l + sumI m
  | [], m => by show sumI m = 0 + sumI m; omega
  | a :: l, m => by
    show a + sumI (l ++ m) = a + sumI l + sumI m
    rw [sumI_append l m]
    omega
def gR (r s : Int) : Int := ((Int.gcd r s : Nat) : Int)
def mulR (r s : Int) : Int := r.fdiv (gR r s) * s.fdiv (gR r s)
def rowI (r z : Int) (k2 : List Int) (t2 : Int → Int) (u : Int) : Int := sumI (k2.map fun s => if mulR r s = u then z * t2 s * gR r s else 0)
def prodI (k1 k2 : List Int) (t1 t2 : Int → Int) (u : Int) : Int := sumI (k1.map fun r => rowI r (t1 r) k2 t2 u)
theorem rowI_succ {r z : Int} {k2 : List Int} {t2 : Int → Int} {j : Nat} {s : Int} (h : k2[j]? = some s) (u : Int) : rowI r z (k2.take (j + 1)) t2 u = rowI r z (k2.take j) t2 u + if mulR r s = u then z * t2 s * gR r s else 0 := by
  unfold rowI
  rw [List.take_add_one, h, List.map_append, sumI_append]
  show _ + (_ + 0) = _
  rw [Int.add_zero]
theorem prodI_succ {k1 k2 : List Int} {t1 t2 : Int → Int} {i : Nat} {r : Int} (h : k1[i]? = some r) (u : Int) : prodI (k1.take (i + 1)) k2 t1 t2 u = prodI (k1.take i) k2 t1 t2 u + rowI r (t1 r) k2 t2 u := by
  unfold prodI
  rw [List.take_add_one, h, List.map_append, sumI_append]
  show _ + (_ + 0) = _
  rw [Int.add_zero]
theorem valV_get : ∀ {kvs : List (Key × V)} {i : Nat} {k : Key} {v : V}, (kvs.map (·.1)).Nodup → kvs[i]? = some (k, v) → valV kvs k = some v
  | [], i, k, v, _, h => by simp at h
  | p :: kvs, 0, k, v, _, h => by
    have e : p = (k, v) := by simpa using h
    rw [e]
    exact valV_pos rfl
  | p :: kvs, i + 1, k, v, nd, h => by
    have h' : kvs[i]? = some (k, v) := by simpa using h
    have n := List.nodup_cons.mp nd
    rw [valV_neg fun e => n.1 (by
      show p.1 ∈ _
      rw [e]
      exact List.mem_map.mpr ⟨_, List.mem_of_getElem? h', rfl⟩)]
    exact valV_get n.2 h'
theorem int_at {kvs : List (Key × V)} {ks : List Int} {t : Int → Int} {i : Nat} {x y : V} (e2 : kvs.map (·.1) = ks.map (Sum.inl : Int → Key)) (e3 : ∀ r ∈ ks, valV kvs (Sum.inl r : Key) = some (.int (t r))) (nd : ks.Nodup)
    (hx : (kvs[i]?.map fun kv => kV kv.1) = some x) (hy : (kvs[i]?.map Prod.snd) = some y) : ∃ r, ks[i]? = some r ∧ x = .int r ∧ y = .int (t r) := by
  cases e : kvs[i]? with
  | none =>
    rw [e] at hx
    cases hx
  | some kv =>
    obtain ⟨k, v⟩ := kv
    rw [e] at hx hy
    obtain ⟨r, hr, rfl⟩ := key_at e2 e
    have ndk : (kvs.map (·.1)).Nodup := by
      rw [e2]
      exact List.pairwise_map.mpr (nd.imp fun {a b} z => inl_ne z)
    have hv := valV_get ndk e
    rw [e3 r (List.mem_of_getElem? hr)] at hv
    refine ⟨r, hr, (Option.some.inj hx).symm, ?_⟩
    rw [Option.some.inj hv]
    exact (Option.some.inj hy).symm
section
variable {J : It} {n : Nat} {G : Hp → Prop} {Y : Nat → Hp → V → Hp → Prop}
theorem dc_it (w : Walk J n G Y) {g : TG} {tt : TT} {tk tv : TE} {vs : List Nat} {σ : L2.St} {H1 : Hp} {D : Addr} {Qd : Hp → Prop} (Pv : Nat → Hp → Prop) (h0 : Pv 0 (upd H1 D (.dK []))) (hG : ∀ i H, i ≤ n → Pv i H → G H)
    (hs : ∀ i x H H', i < n → Pv i H → Y i H x H' → g x (wipe σ vs) H' fun σ2 H2 => wipe σ2 vs = wipe σ vs ∧ tt σ2 H2 fun b H3 =>
      if b = true then tk σ2 H3 fun y H4 => tv σ2 H4 fun z H5 => ∃ kvs k, y = kV k ∧ H5 D = some (.dK kvs) ∧ kvs.length < sizeLine ∧ Pv (i + 1) (upd H5 D (.dK (putK kvs k z))) else Pv (i + 1) H3) (hd : ∀ H, Pv n H → Qd H) :
    ∃ W : Nat → Nat → Hp → Prop, (∃ m, W 0 m (upd H1 D (.dK []))) ∧ ∀ i m H, W i m H →
      (J.stop i H ∧ Qd H) ∨ (J.go i H ∧ ∃ Nx : Hp → Prop, (∀ H', Nx H' → ∃ m', m' < m ∧ W (i + 1) m' H') ∧ ∀ x H', J.yld i H x H' → g x (wipe σ vs) H' fun σ2 H2 => wipe σ2 vs = wipe σ vs ∧ tt σ2 H2 fun b H3 =>
        if b = true then tk σ2 H3 fun y H4 => tv σ2 H4 fun z H5 => ∃ kvs k, y = kV k ∧ H5 D = some (.dK kvs) ∧ kvs.length < sizeLine ∧ Nx (upd H5 D (.dK (putK kvs k z))) else Nx H3) := by
  refine ⟨fun i m H => m = n - i ∧ i ≤ n ∧ Pv i H, ⟨n, by simp, Nat.zero_le _, h0⟩, ?_⟩
  rintro i m H ⟨rfl, hi, p⟩
  have q := hG i H hi p
  by_cases hlt : i < n
  · exact .inr ⟨w.goes i H hlt q, Pv (i + 1), fun H' p' => ⟨n - (i + 1), by omega, rfl, hlt, p'⟩, fun x H' y => hs i x H H' hlt p (w.yields i H x H' hlt q y)⟩
  · have e : i = n := by omega
    subst e
    exact .inl ⟨w.stops H q, hd H p⟩
end
section
variable {P : Program} {w : World} {K : PySem.W.Frag} {mg : Str → Option Value} {base : Heap} {f : Addr} {fd : FuncData} {C fI fQ : Addr}
/-! ### products -/
def spProducts : Sp := fun vs H Q _ => ∃ (d1 d2 : Addr) (k1 k2 : List Int) (t1 t2 : Int → Int) (A B R : Nat), vs = [.ref d1, .ref d2] ∧ d1 ≠ d2 ∧ IntD H d1 k1 t1 ∧ IntD H d2 k2 t2 ∧ (∀ r ∈ k1, 0 < r ∧ r.natAbs < 2 ^ R) ∧ (∀ r ∈ k2, 0 < r ∧ r.natAbs < 2 ^ R) ∧
  (∀ r, (t1 r).natAbs < 2 ^ A) ∧ (∀ r, (t2 r).natAbs < 2 ^ B) ∧ 0 < A ∧ 0 < B ∧ A + B ≤ 80000 ∧ 0 < R ∧ R ≤ 5000 ∧ k1.length * k2.length ≤ 5000 ∧
  ∀ d ks H', Same H H' → H d = none → IntD H' d ks (prodI k1 k2 t1 t2) → ks.length ≤ k1.length * k2.length → (∀ u ∈ ks, ∃ r ∈ k1, ∃ s ∈ k2, u = mulR r s) → Q (.ref d) H'
theorem scProducts : FnScope ["tops", "others", "found", "root", "top", "by", "number", "common", "left"] ["tops", "others"] (defScope sProducts) := ⟨rfl, rfl, rfl, by decide +kernel, rfl, by decide +kernel, by decide +kernel⟩
theorem ok_products {fS : Addr} {fdS : FuncData} (F : FnP K "products" sProducts f fd) (GS : FnOk P w K mg base CX0 1 fS fdS ["one", "other"] spShared) (bS : L2.Binds K fdS ["one", "other"] []) (kS : PySem.W.keepIn K (.ref fS) = true) (gS : mg "shared" = some (.ref fS)) :
    FnOk P w K mg base CX0 2 f fd ["tops", "others"] spProducts := by
  refine F.ok scProducts (fun vs H Q E h => ?_) (fun cdv Ar outer s H vs Q E hr h => ?_)
  · obtain ⟨d1, d2, k1, k2, t1, t2, A, B, R, rfl, _⟩ := h
    rfl
  · obtain ⟨d1, d2, k1, k2, t1, t2, A, B, R, rfl, ndd, h1, h2, r1, r2, z1, z2, A0, B0, AB, R0, R5, len, q⟩ := h
    have hu := hu_of hr
    refine ⟨_, PSs.nox (pss_cons (ps_set (i := 2) scProducts.nd rfl (.inl rfl) pe_dnewK)
      (pss_cons (ps_lock (ps_for PassesOwn.never rfl (pi_items (pv 0)) (pg_tup rfl (pgs_cons (pg_name (i := 3) scProducts.nd rfl (.inl rfl)) (pgs_cons (pg_name (i := 4) scProducts.nd rfl (.inl rfl)) pgs_nil)))
        (pss_one (ps_lock (ps_for PassesOwn.never rfl (pi_items (pv 1)) (pg_tup rfl (pgs_cons (pg_name (i := 5) scProducts.nd rfl (.inl rfl)) (pgs_cons (pg_name (i := 6) scProducts.nd rfl (.inl rfl)) pgs_nil)))
          (pss_cons (ps_set (i := 7) scProducts.nd rfl (.inl rfl) (pe_call GS hr (by rfl) gS kS bS .nil pass0 (pa_cons (pv 3) (pa_cons (pv 5) pa_nil))))
          (pss_cons (ps_set (i := 8) scProducts.nd rfl (.inl rfl) (pe_op op_mulW (pe_op op_fdivNW (pv 3) (pv 7)) (pe_op op_fdivNW (pv 5) (pv 7))))
          (pss_one (ps_dput hu (pv 2) (pv 8) (pe_op op_add (pe_dget2 hu (pv 2) (pv 8) pe_int ⟨rfl, rfl, rfl, rfl⟩) (pe_op op_mulW (pe_op op_mulW (pv 4) (pv 6)) (pv 7))) rfl)))))))))
      (pss_one (ps_ret (pe_lock (pe_dc (own := [("root", 3), ("top", 4)]) (g := gTup K 2 (gCons (gName 3) (gCons (gName 4) gNil))) (tt := tTest (tOp rNe (tVar 4) (tC (.int 0)))) (tk := tVar 3) (tv := tVar 4) rfl scProducts.nd (pi_items (pv 2))
          (blkOk_by (N := ["tops", "others", "found", "root", "top", "by", "number", "common", "left"]) (sc := defScope sProducts) (by decide +kernel))
          (fun _ _ _ _ _ => pg_tup rfl (pgs_cons (pg_name (i := 3) scProducts.nd rfl (.inl rfl)) (pgs_cons (pg_name (i := 4) scProducts.nd rfl (.inl rfl)) pgs_nil))) (fun _ _ _ _ _ => pts_one (pt_cmpR op_ne (pv 4) pe_int (nomark _))) (fun _ _ _ _ _ => pv 3) (fun _ _ _ _ _ => pv 4))))))), ?_⟩
    obtain ⟨kv1, a1, a2, a3, a4, a5⟩ := id h1
    obtain ⟨kv2, b1, b2, b3, b4, b5⟩ := id h2
    have lk1 := len_keys a2
    have lk2 := len_keys b2
    intro p hp
    have smp := same_upd (o := .dK []) hp
    have np1 : p ≠ d1 := (ne_of_none a1 hp).symm
    have np2 : p ≠ d2 := (ne_of_none b1 hp).symm
    refine ⟨d1, .dK kv1, smp _ _ a1, trivial, fun o1 => ?_⟩
    refine ⟨_, rfl, d1, o1, kv1, rfl, upd_same, ?_⟩
    refine for_it (walk_items (d := d1) (o := o1) (kvs := kv1)) (fun i σ H' => ∃ (v3 v4 v5 v6 v7 v8 : Option V) (ks : List Int), σ = [some (.ref d1), some (.ref d2), some (.ref p), v3, v4, v5, v6, v7, v8] ∧ H' d1 = some (.frz o1 (.dK kv1)) ∧ (∀ b o, H b = some o → b ≠ d1 → H' b = some o) ∧
        IntD H' p ks (prodI (k1.take i) k2 t1 t2) ∧ ks.length ≤ i * k2.length ∧ (∀ u ∈ ks, ∃ r ∈ k1, ∃ s ∈ k2, u = mulR r s))
      ⟨none, none, none, none, none, none, [], rfl, upd_same, fun b o e hb => by rw [upd_ne hb]; exact smp _ _ e, ⟨[], by rw [upd_ne np1, upd_same], rfl, (fun r hr => by cases hr), List.nodup_nil, fun r _ => rfl⟩, Nat.zero_le _, (fun u hu => by cases hu)⟩ (fun i σ H' _ hP => ?_) (fun i x σ H' H2 hi hP hy => ?_) (fun σ H' hP => ?_)
    · obtain ⟨_, _, _, _, _, _, _, _, z, _⟩ := hP
      exact z
    · obtain ⟨T, x, y, rfl, hT, rfl, hx, hy⟩ := hy
      obtain ⟨v3, v4, v5, v6, v7, v8, ks, rfl, hf1, keep, hI, lks, sub⟩ := hP
      obtain ⟨r, hr', rfl, rfl⟩ := int_at a2 a3 a4 hx hy
      have rk : r ∈ k1 := List.mem_of_getElem? hr'
      have smT := same_upd (o := .tup [.int r, .int (t1 r)]) hT
      refine ⟨T, _, rfl, SqT.of upd_same, rfl, _, _, rfl, _, _, rfl, rfl, ?_⟩
      refine ⟨d2, .dK kv2, smT _ _ (keep _ _ b1 ndd.symm), trivial, fun o2 => ?_⟩
      refine ⟨_, rfl, d2, o2, kv2, rfl, upd_same, ?_⟩
      refine for_it (walk_items (d := d2) (o := o2) (kvs := kv2)) (fun j σ H3 => ∃ (v5 v6 v7 v8 : Option V) (ks : List Int), σ = [some (.ref d1), some (.ref d2), some (.ref p), some (.int r), some (.int (t1 r)), v5, v6, v7, v8] ∧ H3 d1 = some (.frz o1 (.dK kv1)) ∧ H3 d2 = some (.frz o2 (.dK kv2)) ∧ (∀ b o, H b = some o → b ≠ d1 → b ≠ d2 → H3 b = some o) ∧
          IntD H3 p ks (fun u => prodI (k1.take i) k2 t1 t2 u + rowI r (t1 r) (k2.take j) t2 u) ∧ ks.length ≤ i * k2.length + j ∧ (∀ u ∈ ks, ∃ r ∈ k1, ∃ s ∈ k2, u = mulR r s))
        ⟨v5, v6, v7, v8, ks, rfl, by rw [upd_ne ndd]; exact smT _ _ hf1, upd_same, fun b o e hb hb2 => by rw [upd_ne hb2]; exact smT _ _ (keep _ _ e hb), ((hI.same smT).upd np2).imp fun u => (Int.add_zero _).symm, by omega, sub⟩ (fun j σ H3 _ hP => ?_) (fun j x σ H3 H4 hj hP hy => ?_) (fun σ H3 hP => ?_)
      · obtain ⟨_, _, _, _, _, _, _, z, _⟩ := hP
        exact z
      · obtain ⟨T2, x, y, rfl, hT2, rfl, hx, hy⟩ := hy
        obtain ⟨v5, v6, v7, v8, ks, rfl, hf1', hf2', keep', hI', lks', sub'⟩ := hP
        obtain ⟨s, hs', rfl, rfl⟩ := int_at b2 b3 b4 hx hy
        have sk : s ∈ k2 := List.mem_of_getElem? hs'
        have il : j < k2.length := (List.getElem?_eq_some_iff.mp hs').1
        have il1 : i < k1.length := (List.getElem?_eq_some_iff.mp hr').1
        have smT2 := same_upd (o := .tup [.int s, .int (t2 s)]) hT2
        obtain ⟨r0, rR⟩ := r1 r rk
        obtain ⟨s0, sR⟩ := r2 s sk
        have gp : 0 < Int.gcd r s := Int.gcd_pos_iff.mpr (.inl (by omega))
        have gle : Int.gcd r s ≤ r.natAbs := Nat.le_of_dvd (by omega) (Int.gcd_dvd_natAbs_left r s)
        have gB : Int.gcd r s < 2 ^ R := Nat.lt_of_le_of_lt gle rR
        have gRB : (gR r s).natAbs < 2 ^ R := by
          unfold gR
          rw [Int.natAbs_natCast]
          exact gB
        have cdv' : ∀ z, CDivNW z (gR r s) := fun z => cdivn gp gB R0 (by omega)
        have fB : ∀ z : Int, 0 < z → z.natAbs < 2 ^ R → (z.fdiv (gR r s)).natAbs < 2 ^ R := fun z hz hzR => by
          have e : z = ((z.natAbs : Nat) : Int) := by omega
          rw [e]
          unfold gR
          rw [fdiv_nat, Int.natAbs_natCast]
          exact Nat.lt_of_le_of_lt (Nat.div_le_self ..) hzR
        refine ⟨T2, _, rfl, SqT.of upd_same, rfl, _, _, rfl, _, _, rfl, rfl, ?_⟩
        refine ⟨_, rfl, _, rfl, r, s, rfl, ?_⟩
        refine ⟨_, rfl, _, rfl, r, gR r s, rfl, rfl, cdv' _, _, rfl, _, rfl, s, gR r s, rfl, rfl, cdv' _, _, _, rfl, rfl, cmulw (fB r r0 rR) (fB s s0 sR) R0 R0 (by omega), ?_⟩
        obtain ⟨kvp, p1, p2, p3, p4, p5⟩ := hI'.same smT2
        have len9 : ks.length ≤ 5000 := by
          have : (i + 1) * k2.length ≤ k1.length * k2.length := Nat.mul_le_mul_right _ il1
          rw [Nat.succ_mul] at this
          omega
        have got : ∃ o, DGet (upd H3 T2 (.tup [.int s, .int (t2 s)])) p (.int (mulR r s)) o ∧ o.getD (.int 0) = .int (prodI (k1.take i) k2 t1 t2 (mulR r s) + rowI r (t1 r) (k2.take j) t2 (mulR r s)) := by
          by_cases hk : mulR r s ∈ ks
          · exact ⟨_, dget_in p1 (p3 _ hk), rfl⟩
          · refine ⟨none, dget_out p1 (valV_out p2 hk), ?_⟩
            have z := p5 _ hk
            show V.int 0 = _
            rw [show prodI (k1.take i) k2 t1 t2 (mulR r s) + rowI r (t1 r) (k2.take j) t2 (mulR r s) = 0 from z]
        obtain ⟨o, dg, eo⟩ := got
        refine ⟨_, rfl, p, rfl, .inl ⟨_, .inl p1⟩, _, rfl, o, dg, ?_⟩
        rw [eo]
        refine ⟨_, rfl, _, rfl, t1 r, t2 s, rfl, rfl, cmulw (z1 r) (z2 s) A0 B0 (by omega), _, rfl, _, gR r s, rfl, rfl, cmulw (wide_lt (z1 r) (z2 s)) gRB (by omega) R0 (by omega), _, _, rfl, rfl, ?_⟩
        refine ⟨_, rfl, _, rfl, p, _, rfl, DPut.k (k := Sum.inl (mulR r s)) p1 (Nat.lt_of_le_of_lt (m := 5000) (by rw [len_keys p2]; omega) (by decide)), ?_⟩
        have hfp : ∀ {b : Addr} {o : HO}, b ≠ p → (upd H3 T2 (.tup [.int s, .int (t2 s)])) b = some o → (upd (upd H3 T2 (.tup [.int s, .int (t2 s)])) p (.dK (putK kvp (Sum.inl (mulR r s)) (.int (prodI (k1.take i) k2 t1 t2 (mulR r s) + rowI r (t1 r) (k2.take j) t2 (mulR r s) + t1 r * t2 s * gR r s))))) b = some o := fun {b o} hb e => by
          rw [upd_ne hb]
          exact e
        refine ⟨_, _, _, _, addKey ks (mulR r s), rfl, hfp np1.symm (smT2 _ _ hf1'), hfp np2.symm (smT2 _ _ hf2'), fun b o e hb hb2 => hfp (ne_of_none e hp) (smT2 _ _ (keep' _ _ e hb hb2)), ?_, Nat.le_trans (addKey_len ks _) (by omega), fun u hu' => ?_⟩
        · refine (putI_ok (H := upd H3 T2 (.tup [.int s, .int (t2 s)])) (d := p) (r := mulR r s) p2 p3 p4 p5).imp fun u => ?_
          unfold setI
          show (if u = mulR r s then _ else prodI (k1.take i) k2 t1 t2 u + rowI r (t1 r) (k2.take j) t2 u) = prodI (k1.take i) k2 t1 t2 u + rowI r (t1 r) (k2.take (j + 1)) t2 u
          rw [rowI_succ hs' u]
          by_cases es : u = mulR r s
          · rw [if_pos es, if_pos es.symm, es, Int.add_assoc]
          · rw [if_neg es, if_neg fun z => es z.symm, Int.add_zero]
        · rcases mem_addKey.mp hu' with m | m
          · exact sub' u m
          · exact ⟨r, rk, s, sk, m⟩
      · obtain ⟨v5, v6, v7, v8, ks, rfl, hf1', hf2', keep', hI', lks', sub'⟩ := hP
        refine ⟨hf2', _, _, _, _, _, _, ks, rfl, by rw [upd_ne ndd]; exact hf1', fun b o e hb => ?_, (hI'.upd np2).imp fun u => ?_, ?_, sub'⟩
        · by_cases hb2 : b = d2
          · rw [hb2, upd_same]
            rw [hb2, b1] at e
            exact e
          · rw [upd_ne hb2]
            exact keep' _ _ e hb hb2
        · show _ + rowI r (t1 r) (k2.take kv2.length) t2 u = _
          rw [lk2, List.take_length, prodI_succ hr' u]
        · rw [Nat.succ_mul]
          omega
    · obtain ⟨v3, v4, v5, v6, v7, v8, ks, rfl, hf1, keep, hI, lks, sub⟩ := hP
      refine ⟨hf1, ?_⟩
      rw [lk1, List.take_length] at hI
      rw [lk1] at lks
      have smq : Same H (upd H' d1 (.dK kv1)) := fun b o e => by
        by_cases hb : b = d1
        · rw [hb, upd_same]
          rw [hb, a1] at e
          exact e
        · rw [upd_ne hb]
          exact keep _ _ e hb
      have hIq := hI.upd (o := .dK kv1) np1
      generalize upd H' d1 (.dK kv1) = Hq at smq hIq ⊢
      obtain ⟨kvp, p1, p2, p3, p4, p5⟩ := hIq
      have lkp := len_keys p2
      refine ⟨p, .dK kvp, p1, trivial, fun o3 => ?_⟩
      refine ⟨_, rfl, p, o3, kvp, rfl, upd_same, fun D hD => dc_it (walk_items (d := p) (o := o3) (kvs := kvp)) (fun i H2 => (∀ b o, Hq b = some o → b ≠ p → H2 b = some o) ∧ H2 p = some (.frz o3 (.dK kvp)) ∧ ∃ ks', IntD H2 D ks' (fun u => if u ∈ ks.take i then prodI k1 k2 t1 t2 u else 0) ∧ ks'.length ≤ i ∧ ∀ u ∈ ks', u ∈ ks) ?_ (fun i H2 _ hP => hP.2.1) (fun i x H2 H3 hi hP hy => ?_) (fun H2 hP => ?_)⟩
      · have nDp : p ≠ D := ne_of_none (upd_same (H := Hq) (a := p) (o := .frz o3 (.dK kvp))) hD
        refine ⟨fun b o e hb => ?_, by rw [upd_ne nDp]; exact upd_same, [], ⟨[], upd_same, rfl, (fun r hr => by cases hr), List.nodup_nil, fun r _ => by simp⟩, Nat.le_refl _, (fun u hu => by cases hu)⟩
        exact same_upd hD _ _ (by rw [upd_ne hb]; exact e)
      · obtain ⟨T3, x, y, rfl, hT3, rfl, hx, hy⟩ := hy
        obtain ⟨keep3, hfp, ks', hI3, l3, sub3⟩ := hP
        obtain ⟨u, hu', rfl, rfl⟩ := int_at p2 p3 p4 hx hy
        have uk : u ∈ ks := List.mem_of_getElem? hu'
        have iu : i < ks.length := (List.getElem?_eq_some_iff.mp hu').1
        have sm3 := same_upd (o := .tup [.int u, .int (prodI k1 k2 t1 t2 u)]) hT3
        have nDp : p ≠ D := fun z => by
          obtain ⟨kvD, q1, _⟩ := hI3
          rw [← z, hfp] at q1
          cases q1
        refine ⟨T3, _, rfl, SqT.of upd_same, rfl, _, _, rfl, _, _, rfl, rfl, rfl, ?_⟩
        refine ⟨_, rfl, rfl, _, rfl, ?_⟩
        by_cases hz : prodI k1 k2 t1 t2 u = 0
        · refine iteNS (congrArg V.int hz) ?_
          refine ⟨fun b o e hb => sm3 _ _ (keep3 _ _ e hb), sm3 _ _ hfp, ks', (hI3.same sm3).imp fun s => ?_, Nat.le_succ_of_le l3, sub3⟩
          show (if s ∈ ks.take i then prodI k1 k2 t1 t2 s else 0) = (if s ∈ ks.take (i + 1) then prodI k1 k2 t1 t2 s else 0)
          by_cases m : s ∈ ks.take i
          · rw [if_pos m, if_pos ((mem_take_succ hu').mpr (.inl m))]
          · rw [if_neg m]
            by_cases es : s = u
            · rw [es, hz]
              split <;> rfl
            · rw [if_neg fun z => ((mem_take_succ hu').mp z).elim m es]
        · refine iteNT (ine hz) ?_
          obtain ⟨kvD, q1, q2, q3, q4, q5⟩ := hI3.same sm3
          refine ⟨_, rfl, _, rfl, kvD, Sum.inl u, rfl, q1, Nat.lt_of_le_of_lt (m := 5000) (by rw [len_keys q2]; omega) (by decide), fun b o e hb => ?_, ?_, addKey ks' u, (putI_ok (r := u) q2 q3 q4 q5).imp fun s => ?_, Nat.le_trans (addKey_len ks' u) (by omega), fun s hs => ?_⟩
          · have nb : b ≠ D := fun z => by
              rw [z] at e hb
              have := (by rw [upd_ne hb]; exact e : (upd Hq p (.frz o3 (.dK kvp))) D = some o)
              rw [hD] at this
              cases this
            rw [upd_ne nb]
            exact sm3 _ _ (keep3 _ _ e hb)
          · rw [upd_ne nDp]
            exact sm3 _ _ hfp
          · unfold setI
            show (if s = u then _ else if s ∈ ks.take i then prodI k1 k2 t1 t2 s else 0) = (if s ∈ ks.take (i + 1) then prodI k1 k2 t1 t2 s else 0)
            by_cases es : s = u
            · rw [if_pos es, if_pos ((mem_take_succ hu').mpr (.inr es)), es]
            · rw [if_neg es]
              by_cases m : s ∈ ks.take i
              · rw [if_pos m, if_pos ((mem_take_succ hu').mpr (.inl m))]
              · rw [if_neg m, if_neg fun z => ((mem_take_succ hu').mp z).elim m es]
          · rcases mem_addKey.mp hs with m | m
            · exact sub3 s m
            · rw [m]
              exact uk
      · obtain ⟨keep3, hfp, ks', hI3, l3, sub3⟩ := hP
        have nDp : D ≠ p := fun z => by
          obtain ⟨kvD, q1, _⟩ := hI3
          rw [z, hfp] at q1
          cases q1
        refine ⟨hfp, q D ks' _ (fun b o e => ?_) ?_ ((hI3.upd nDp).imp fun u => ?_) (by omega) fun u hu' => sub u (sub3 u hu')⟩
        · rw [upd_ne (ne_of_none e hp)]
          exact keep3 _ _ (smq _ _ e) (ne_of_none e hp)
        · refine smq.free ?_
          have z := hD
          rw [upd_ne nDp] at z
          exact z
        · show (if u ∈ ks.take kvp.length then prodI k1 k2 t1 t2 u else 0) = _
          rw [lkp, List.take_length]
          by_cases m : u ∈ ks
          · rw [if_pos m]
          · rw [if_neg m, p5 u m]
end
end TC
namespace TC
open PySem PySem.Spec PyProof.Rows L2 TCA
/-! ### products of numbers, as fractions -/
def sumQ : List Rat → Rat
  | [] => 0
  | a :: l => a + sumQ l
/-- the product at a root, by the roots of both -/
def prodG (k1 k2 : List Int) (g1 g2 : Int → Rat) (u : Int) : Rat := sumQ (k1.map fun r => sumQ (k2.map fun s => if mulR r s = u then g1 r * g2 s * ((gR r s : Int) : Rat) else 0))
/-- the tops over one bottom D -/
def topsG (g : Int → Rat) (D : Nat) (r : Int) : Int := (g r).num * ((D / (g r).den : Nat) : Int)
theorem topsG_div {g : Int → Rat} {c : Nat} (hc : 0 < c) (r : Int) (h : (g r).den ∣ c) : Rat.divInt (topsG g c r) (c : Int) = g r := by
  have dp := (g r).den_pos
  have d0 : ((g r).den : Int) ≠ 0 := by omega
  have c0 : ((c : Nat) : Int) ≠ 0 := by omega
  have e : Rat.divInt (topsG g c r) (c : Int) = Rat.divInt (g r).num ((g r).den : Int) := by
    rw [Rat.divInt_eq_divInt_iff c0 d0]
    unfold topsG
    rw [Int.mul_assoc]
    congr 1
    rw [← Int.natCast_mul, Nat.div_mul_cancel h]
  rw [e, Rat.num_divInt_den]
theorem divInt_add {d : Int} (hd : d ≠ 0) (a b : Int) : Rat.divInt (a + b) d = Rat.divInt a d + Rat.divInt b d := by
  rw [Rat.divInt_add_divInt a b hd hd, Rat.divInt_eq_divInt_iff hd (Int.mul_ne_zero hd hd), ← Int.add_mul, Int.mul_assoc]
theorem sum_div {α : Type} {d : Int} (hd : d ≠ 0) {f : α → Int} {g : α → Rat} : ∀ {l : List α}, (∀ a ∈ l, Rat.divInt (f a) d = g a) → Rat.divInt (sumI (l.map f)) d = sumQ (l.map g)
  | [], _ => Rat.zero_divInt d
  | a :: l, h => by
    show Rat.divInt (f a + sumI (l.map f)) d = g a + sumQ (l.map g)
    rw [divInt_add hd, h a (List.mem_cons_self ..), sum_div hd fun b hb => h b (List.mem_cons_of_mem _ hb)]
theorem divInt_of_one (g : Int) : Rat.divInt g 1 = (g : Rat) := by
  rw [Rat.divInt_eq_div]
  grind
theorem term_div (a b g c1 c2 : Int) : Rat.divInt (a * b * g) (c1 * c2) = Rat.divInt a c1 * Rat.divInt b c2 * (g : Rat) := by
  rw [← divInt_of_one g, Rat.divInt_mul_divInt, Rat.divInt_mul_divInt, Int.mul_one]
theorem row_divG {k2 : List Int} {g1 g2 : Int → Rat} {c1 c2 : Nat} (h1 : 0 < c1) (h2 : 0 < c2) (d1 : ∀ r, (g1 r).den ∣ c1) (d2 : ∀ r, (g2 r).den ∣ c2) (r u : Int) :
    Rat.divInt (rowI r (topsG g1 c1 r) k2 (topsG g2 c2) u) ((c1 : Int) * (c2 : Int)) = sumQ (k2.map fun s => if mulR r s = u then g1 r * g2 s * ((gR r s : Int) : Rat) else 0) := by
  have c0 : (c1 : Int) * (c2 : Int) ≠ 0 := Int.mul_ne_zero (by omega) (by omega)
  unfold rowI
  refine sum_div c0 fun s hs => ?_
  by_cases e : mulR r s = u
  · rw [if_pos e, if_pos e, term_div, topsG_div h1 r (d1 r), topsG_div h2 s (d2 s)]
  · rw [if_neg e, if_neg e, Rat.zero_divInt]
theorem prod_divG {k1 k2 : List Int} {g1 g2 : Int → Rat} {c1 c2 : Nat} (h1 : 0 < c1) (h2 : 0 < c2) (d1 : ∀ r, (g1 r).den ∣ c1) (d2 : ∀ r, (g2 r).den ∣ c2) (u : Int) :
    Rat.divInt (prodI k1 k2 (topsG g1 c1) (topsG g2 c2) u) ((c1 : Int) * (c2 : Int)) = prodG k1 k2 g1 g2 u := by
  have c0 : (c1 : Int) * (c2 : Int) ≠ 0 := Int.mul_ne_zero (by omega) (by omega)
  unfold prodI prodG
  exact sum_div c0 fun r hr => row_divG h1 h2 d1 d2 r u
theorem den_divInt {t : Int} {c : Nat} (hc : 0 < c) : (Rat.divInt t (c : Int)).den ∣ c := by
  have e2 := congrArg Prod.snd (TCR.low_rat t (c : Int) (by omega))
  have es : TCM.sgn t (c : Int) = ((Int.gcd t (c : Int) : Nat) : Int) := if_neg (by omega)
  have e3 : (c : Int).fdiv ((Int.gcd t (c : Int) : Nat) : Int) = ((Rat.divInt t (c : Int)).den : Int) := by
    rw [← es]
    exact e2
  rw [fdiv_nat] at e3
  have e4 : c / Int.gcd t (c : Int) = (Rat.divInt t (c : Int)).den := Int.ofNat.inj e3
  rw [← e4]
  exact Nat.div_dvd_of_dvd (by
    have := Int.gcd_dvd_natAbs_right t (c : Int)
    rwa [Int.natAbs_natCast] at this)
theorem sumI_le {α : Type} {K : Nat} {f : α → Int} : ∀ {l : List α}, (∀ a ∈ l, (f a).natAbs ≤ K) → (sumI (l.map f)).natAbs ≤ l.length * K
  | [], _ => Nat.zero_le _
  | a :: l, h => by
    have e1 := h a (List.mem_cons_self ..)
    have e2 := sumI_le (f := f) fun b hb => h b (List.mem_cons_of_mem _ hb)
    show (f a + sumI (l.map f)).natAbs ≤ (l.length + 1) * K
    rw [Nat.succ_mul]
    omega
theorem prodI_le {k1 k2 : List Int} {t1 t2 : Int → Int} {K : Nat} (h : ∀ r ∈ k1, ∀ s ∈ k2, (t1 r * t2 s * gR r s).natAbs ≤ K) (u : Int) : (prodI k1 k2 t1 t2 u).natAbs ≤ k1.length * k2.length * K := by
  rw [Nat.mul_assoc]
  refine sumI_le fun r hr => sumI_le fun s hs => ?_
  split
  · exact h r hr s hs
  · exact Nat.zero_le _
theorem tops_lt {L : List Part} {c A B : Nat} (hc : c < 2 ^ B) (zA : ∀ r, (TCR.val L r).num.natAbs < 2 ^ A) (r : Int) : (topsOf L c r).natAbs < 2 ^ (A + B) := wide_lt (zA r) (by rw [Int.natAbs_natCast]; exact Nat.lt_of_le_of_lt (Nat.div_le_self ..) hc)
/-- how large a number's parts are: bottoms that divide D, tops and roots below a power of 2 -/
structure Fit (D A R : Nat) (L : List Part) : Prop where
  can : TCR.Canon L
  den : ∀ x ∈ L, x.2.den ∣ D
  num : ∀ x ∈ L, x.2.num.natAbs < 2 ^ A
  pos : ∀ x ∈ L, 0 < x.1 ∧ x.1.natAbs < 2 ^ R
theorem Fit.val {D A R : Nat} {L : List Part} (h : Fit D A R L) (r : Int) : (TCR.val L r).num.natAbs < 2 ^ A := by
  rcases Classical.em (∃ q, (r, q) ∈ L) with ⟨q, z⟩ | z
  · rw [h.can.mem z]
    exact h.num _ z
  · rw [TCR.val_not fun x hx e => z ⟨x.2, by rw [← e]; exact hx⟩]
    exact Nat.pow_pos (by decide)
section
variable {P : Program} {w : World} {K : PySem.W.Frag} {mg : Str → Option Value} {base : Heap} {f : Addr} {fd : FuncData} {C fI fQ : Addr}
/-! ### times -/
def spTimes (C : Addr) : Sp := fun vs H Q _ => ∃ (x y : Addr) (L M : List Part) (D1 D2 A1 A2 B1 B2 R : Nat), vs = [.ref x, .ref y] ∧ NumAt C H x L ∧ NumAt C H y M ∧ Fit D1 A1 R L ∧ Fit D2 A2 R M ∧ 0 < D1 ∧ 0 < D2 ∧ D1 < 2 ^ B1 ∧ D2 < 2 ^ B2 ∧ 0 < A1 ∧ 0 < A2 ∧ 0 < B1 ∧ 0 < B2 ∧ B1 + B2 ≤ 8000 ∧ A1 + A2 ≤ 20000 ∧ 0 < R ∧ R ≤ 5000 ∧
  L.length ≤ 1000 ∧ M.length ≤ 1000 ∧ L.length * M.length ≤ 5000 ∧
  ∀ z N H', Same H H' → H z = none → NumAt C H' z N → Fit (D1 * D2) (A1 + B1 + (A2 + B2) + R + 13) (R + R) N → (∀ u, TCR.val N u = prodG (L.map (·.1)) (M.map (·.1)) (TCR.val L) (TCR.val M) u) → N.length ≤ L.length * M.length → Q (.ref z) H'
theorem scTimes : FnScope ["one", "other", "tops", "bottom", "others", "below"] ["one", "other"] (defScope sTimes) := ⟨rfl, rfl, rfl, by decide +kernel, rfl, by decide +kernel, by decide +kernel⟩
theorem fdiv_pos {z g : Int} (hz : 0 < z) (hg : 0 < g) (h : g ∣ z) : 0 < z.fdiv g := by
  obtain ⟨k, rfl⟩ := h
  rw [Int.mul_fdiv_cancel_left _ (by omega)]
  rcases Int.lt_trichotomy 0 k with h | h | h
  · exact h
  · rw [← h] at hz
    omega
  · have := Int.mul_neg_of_pos_of_neg hg h
    omega
theorem mulR_pos {r s : Int} {R : Nat} (hr : 0 < r) (hs : 0 < s) (zr : r.natAbs < 2 ^ R) (zs : s.natAbs < 2 ^ R) : 0 < mulR r s ∧ (mulR r s).natAbs < 2 ^ (R + R) := by
  have gp : 0 < Int.gcd r s := Int.gcd_pos_iff.mpr (.inl (by omega))
  have gp' : 0 < gR r s := by
    unfold gR
    omega
  have fB : ∀ z : Int, 0 < z → z.natAbs < 2 ^ R → (z.fdiv (gR r s)).natAbs < 2 ^ R := fun z hz hzR => by
    have e : z = ((z.natAbs : Nat) : Int) := by omega
    rw [e]
    unfold gR
    rw [fdiv_nat, Int.natAbs_natCast]
    exact Nat.lt_of_le_of_lt (Nat.div_le_self ..) hzR
  exact ⟨Int.mul_pos (fdiv_pos hr gp' (Int.gcd_dvd_left ..)) (fdiv_pos hs gp' (Int.gcd_dvd_right ..)), wide_lt (fB r hr zr) (fB s hs zs)⟩
theorem ok_times {fN fO fP fW : Addr} {fdN fdO fdP fdW : FuncData} (F : FnP K "times" sTimes f fd) (T : TxtN K mg C fI fQ) (GN : FnOk P w K mg base CX0 1 fN fdN ["thing"] (spNeed C)) (bN : L2.Binds K fdN ["thing"] []) (kN : PySem.W.keepIn K (.ref fN) = true) (gN : mg "need_exact" = some (.ref fN))
    (GO : FnOk P w K mg base CX0 2 fO fdO ["parts"] spOneB) (bO : L2.Binds K fdO ["parts"] []) (kO : PySem.W.keepIn K (.ref fO) = true) (gO : mg "on_one_bottom" = some (.ref fO))
    (GP : FnOk P w K mg base CX0 2 fP fdP ["tops", "others"] spProducts) (bP : L2.Binds K fdP ["tops", "others"] []) (kP : PySem.W.keepIn K (.ref fP) = true) (gP : mg "products" = some (.ref fP))
    (GW : FnOk P w K mg base CX0 3 fW fdW ["tops", "bottom"] (spLowered C)) (bW : L2.Binds K fdW ["tops", "bottom"] []) (kW : PySem.W.keepIn K (.ref fW) = true) (gW : mg "lowered" = some (.ref fW)) :
    FnOk P w K mg base CX0 4 f fd ["one", "other"] (spTimes C) := by
  refine F.ok scTimes (fun vs H Q E h => ?_) (fun cdv Ar outer s H vs Q E hr h => ?_)
  · obtain ⟨x, y, L, M, D1, D2, A1, A2, B1, B2, R, rfl, _⟩ := h
    rfl
  · obtain ⟨x, y, L, M, D1, D2, A1, A2, B1, B2, R, rfl, hx, hy, fL, fM, D10, D20, z1, z2, A10, A20, B10, B20, BB, AA, R0, R5, l1, l2, l12, q⟩ := h
    have hr1 := hr.mono (j := 1) (by decide)
    have hr2 := hr.mono (j := 2) (by decide)
    refine ⟨_, PSs.nox (pss_cons (ps_expr (pe_call GN hr1 (by rfl) gN kN bN .nil pass0 (pa_cons (pv 0) pa_nil)))
      (pss_cons (ps_expr (pe_call GN hr1 (by rfl) gN kN bN .nil pass0 (pa_cons (pv 1) pa_nil)))
      (pss_cons (ps_asg (pe_call GO hr2 (by rfl) gO kO bO .nil pass0 (pa_cons (pe_fld (pv 0) rfl) pa_nil)) (pg_tup rfl (pgs_cons (pg_name (i := 2) scTimes.nd rfl (.inl rfl)) (pgs_cons (pg_name (i := 3) scTimes.nd rfl (.inl rfl)) pgs_nil))))
      (pss_cons (ps_asg (pe_call GO hr2 (by rfl) gO kO bO .nil pass0 (pa_cons (pe_fld (pv 1) rfl) pa_nil)) (pg_tup rfl (pgs_cons (pg_name (i := 4) scTimes.nd rfl (.inl rfl)) (pgs_cons (pg_name (i := 5) scTimes.nd rfl (.inl rfl)) pgs_nil))))
      (pss_one (ps_ret (pe_call GW hr (by rfl) gW kW bW .nil pass0 (pa_cons (pe_call GP hr2 (by rfl) gP kP bP .nil pass0 (pa_cons (pv 2) (pa_cons (pv 4) pa_nil))) (pa_cons (pe_op op_mulW (pv 3) (pv 5)) pa_nil))))))))), ?_⟩
    refine ⟨_, rfl, x, L, rfl, hx, ?_⟩
    refine ⟨_, rfl, y, M, rfl, hy, ?_⟩
    obtain ⟨dx, p1, hx1, hp1⟩ := id hx
    obtain ⟨dy, p2, hy1, hp2⟩ := id hy
    refine ⟨_, rfl, x, C, dx, _, _, rfl, hx1, T.cl, T.nP, rfl, p1, L, D1, A1, B1, rfl, hp1, fL.can, fL.den, D10, z1, B10, by omega, fL.num, A10, by omega, l1, fun v1 d1 c1 H1 s1 hv1 ev1 hd1 i1 c10 c1D c1d => ?_⟩
    refine ⟨v1, _, rfl, SqT.of ev1, rfl, _, _, rfl, _, _, rfl, rfl, ?_⟩
    refine ⟨_, rfl, y, C, dy, _, _, rfl, s1 _ _ hy1, T.cl, T.nP, rfl, p2, M, D2, A2, B2, rfl, hp2.same s1, fM.can, fM.den, D20, z2, B20, by omega, fM.num, A20, by omega, l2, fun v2 d2 c2 H2 s2 hv2 ev2 hd2 i2 c20 c2D c2d => ?_⟩
    refine ⟨v2, _, rfl, SqT.of ev2, rfl, _, _, rfl, _, _, rfl, rfl, ?_⟩
    have c1B : c1 < 2 ^ B1 := Nat.lt_of_le_of_lt (Nat.le_of_dvd D10 c1D) z1
    have c2B : c2 < 2 ^ B2 := Nat.lt_of_le_of_lt (Nat.le_of_dvd D20 c2D) z2
    have ndd : d1 ≠ d2 := by
      obtain ⟨_, z, _⟩ := i1
      exact ne_of_none z hd2
    have kp : ∀ {N : List Part} {D A : Nat}, Fit D A R N → ∀ r ∈ N.map (·.1), 0 < r ∧ r.natAbs < 2 ^ R := fun {N D A} h r hr => by
      obtain ⟨z, hz, e⟩ := List.mem_map.mp hr
      rw [← e]
      exact h.pos z hz
    have tl1 := tops_lt c1B fL.val
    have tl2 := tops_lt c2B fM.val
    refine ⟨_, rfl, _, rfl, d1, d2, L.map (·.1), M.map (·.1), _, _, A1 + B1, A2 + B2, R, rfl, ndd, i1.same s2, i2, kp fL, kp fM, tl1, tl2, by omega, by omega, by omega, R0, R5, by rw [List.length_map, List.length_map]; exact (Nat.le_trans l12 (by decide)), fun d ks H3 s3 hd i3 lk sub => ?_⟩
    rw [List.length_map, List.length_map] at lk
    have b0 : (c1 : Int) * (c2 : Int) ≠ 0 := Int.mul_ne_zero (by omega) (by omega)
    have n1 : ((c1 : Nat) : Int).natAbs < 2 ^ B1 := by rw [Int.natAbs_natCast]; exact c1B
    have n2 : ((c2 : Nat) : Int).natAbs < 2 ^ B2 := by rw [Int.natAbs_natCast]; exact c2B
    refine ⟨_, rfl, _, rfl, (c1 : Int), (c2 : Int), rfl, rfl, cmulw n1 n2 B10 B20 (by omega), ?_⟩
    refine ⟨d, ks, _, _, B1 + B2, rfl, i3, b0, wide_lt n1 n2, by omega, BB, by omega, fun z N H4 s4 hz hN cN vN lN => ?_⟩
    have vQ : ∀ u, TCR.val N u = prodG (L.map (·.1)) (M.map (·.1)) (TCR.val L) (TCR.val M) u := fun u => (vN u).trans (prod_divG (g1 := TCR.val L) (g2 := TCR.val M) c10 c20 (den_val c1d fL.can) (den_val c2d fM.can) u)
    refine q z N H4 (((s1.trans s2).trans s3).trans s4) ((((s1.trans s2).trans s3)).free hz) hN ⟨cN, fun e he => ?_, fun e he => ?_, fun e he => ?_⟩ vQ (Nat.le_trans lN lk)
    · rw [← cN.mem he, vN e.1, ← Int.natCast_mul]
      exact Nat.dvd_trans (den_divInt (Nat.mul_pos c10 c20)) (Nat.mul_dvd_mul c1D c2D)
    · rw [← cN.mem he, vN e.1]
      have lo := (TCM.low_abs (prodI (L.map (·.1)) (M.map (·.1)) (topsOf L c1) (topsOf M c2) e.1) _ b0).1
      rw [TCR.low_rat _ _ b0] at lo
      refine Nat.lt_of_le_of_lt lo ?_
      have bt : ∀ r ∈ L.map (·.1), ∀ s ∈ M.map (·.1), (topsOf L c1 r * topsOf M c2 s * gR r s).natAbs ≤ 2 ^ (A1 + B1 + (A2 + B2) + R) := fun r hr s hs => by
        refine Nat.le_of_lt (wide_lt (wide_lt (tl1 r) (tl2 s)) ?_)
        unfold gR
        rw [Int.natAbs_natCast]
        obtain ⟨r0, rR⟩ := kp fL r hr
        exact Nat.lt_of_le_of_lt (Nat.le_of_dvd (by omega) (Int.gcd_dvd_natAbs_left r s)) rR
      refine Nat.lt_of_le_of_lt (prodI_le bt e.1) ?_
      rw [List.length_map, List.length_map, Nat.pow_add 2 _ 13, Nat.mul_comm]
      exact Nat.mul_lt_mul_of_pos_left (show L.length * M.length < 2 ^ 13 by omega) (Nat.pow_pos (by decide))
    · have nz : TCR.val N e.1 ≠ 0 := by
        rw [cN.mem he]
        exact cN.nz e he
      have uk : e.1 ∈ ks := Classical.byContradiction fun m => nz (by
        rw [vN e.1]
        obtain ⟨_, _, _, _, _, out⟩ := i3
        rw [out e.1 m, Rat.zero_divInt])
      obtain ⟨r, hr', s, hs', eu⟩ := sub e.1 uk
      obtain ⟨r0, rR⟩ := kp fL r hr'
      obtain ⟨s0, sR⟩ := kp fM s hs'
      rw [eu]
      exact mulR_pos r0 s0 rR sR
end
end TC
namespace TC
/-! ### facts of the product, as fractions -/
theorem sumQ_zero {α : Type} {f : α → Rat} : ∀ {l : List α}, (∀ a ∈ l, f a = 0) → sumQ (l.map f) = 0
  | [], _ => rfl
  | a :: l, h => by
    show f a + sumQ (l.map f) = 0
    rw [h a (List.mem_cons_self ..), sumQ_zero fun b hb => h b (List.mem_cons_of_mem _ hb)]
    grind
theorem sumQ_add {α : Type} (f g : α → Rat) : ∀ l : List α, sumQ (l.map fun a => f a + g a) = sumQ (l.map f) + sumQ (l.map g)
  | [] => by show (0 : Rat) = 0 + 0; grind
  | a :: l => by
    show f a + g a + sumQ (l.map fun a => f a + g a) = f a + sumQ (l.map f) + (g a + sumQ (l.map g))
    rw [sumQ_add f g l]
    grind
theorem sumQ_mul {α : Type} (c : Rat) (f : α → Rat) : ∀ l : List α, sumQ (l.map fun a => c * f a) = c * sumQ (l.map f)
  | [] => by show (0 : Rat) = c * 0; grind
  | a :: l => by
    show c * f a + sumQ (l.map fun a => c * f a) = c * (f a + sumQ (l.map f))
    rw [sumQ_mul c f l]
    grind
theorem sumQ_congr {α : Type} {f g : α → Rat} {l : List α} (h : ∀ a ∈ l, f a = g a) : sumQ (l.map f) = sumQ (l.map g) := by
  rw [List.map_congr_left h]
theorem sumQ_swap {α β : Type} (f : α → β → Rat) (m : List β) : ∀ l : List α, sumQ (l.map fun a => sumQ (m.map fun b => f a b)) = sumQ (m.map fun b => sumQ (l.map fun a => f a b))
  | [] => (sumQ_zero fun b _ => rfl).symm
  | a :: l => by
    show sumQ (m.map fun b => f a b) + sumQ (l.map fun a => sumQ (m.map fun b => f a b)) = sumQ (m.map fun b => f a b + sumQ (l.map fun a => f a b))
    rw [sumQ_add (fun b => f a b) (fun b => sumQ (l.map fun a => f a b)) m, sumQ_swap f m l]
theorem sumQ_perm {l m : List Rat} (h : l.Perm m) : sumQ l = sumQ m := by
  induction h with
  | nil => rfl
  | cons a _ ih =>
    show a + _ = a + _
    rw [ih]
  | swap a b l =>
    show b + (a + sumQ l) = a + (b + sumQ l)
    grind
  | trans _ _ h1 h2 => exact h1.trans h2
theorem sumQ_filter {f : Int → Rat} : ∀ l : List Int, sumQ (l.map f) = sumQ ((l.filter fun r => decide (f r ≠ 0)).map f)
  | [] => rfl
  | a :: l => by
    rw [List.filter_cons]
    by_cases h : f a = 0
    · rw [if_neg (by simp [h])]
      show f a + sumQ (l.map f) = _
      rw [h, sumQ_filter l]
      grind
    · rw [if_pos (by simp [h])]
      show f a + sumQ (l.map f) = f a + sumQ ((l.filter fun r => decide (f r ≠ 0)).map f)
      rw [sumQ_filter l]
theorem sum_supp {k k' : List Int} {f : Int → Rat} (nd : k.Nodup) (nd' : k'.Nodup) (h : ∀ r, f r ≠ 0 → r ∈ k) (h' : ∀ r, f r ≠ 0 → r ∈ k') : sumQ (k.map f) = sumQ (k'.map f) := by
  rw [sumQ_filter k, sumQ_filter k']
  refine sumQ_perm (List.Perm.map f ((List.perm_ext_iff_of_nodup (nd.filter _) (nd'.filter _)).mpr fun r => ?_))
  rw [List.mem_filter, List.mem_filter]
  refine ⟨fun z => ⟨h' r (of_decide_eq_true z.2), z.2⟩, fun z => ⟨h r (of_decide_eq_true z.2), z.2⟩⟩
theorem sum_pick {k : List Int} {f : Int → Rat} (nd : k.Nodup) (u : Int) (h : f u ≠ 0 → u ∈ k) : sumQ (k.map fun r => if r = u then f r else 0) = f u := by
  have z := sum_supp (k' := [u]) (f := fun r => if r = u then f r else 0) nd (by simp) (fun r hr => ?_) (fun r hr => ?_)
  · rw [z]
    show (if u = u then f u else 0) + 0 = f u
    rw [if_pos rfl]
    grind
  · by_cases e : r = u
    · rw [e]
      refine h fun z => hr ?_
      rw [e, if_pos rfl]
      exact z
    · exact absurd (if_neg e) hr
  · by_cases e : r = u
    · exact List.mem_singleton.mpr e
    · exact absurd (if_neg e) hr
/-- where a function's support lies -/
def Cov (g : Int → Rat) (k : List Int) : Prop := k.Nodup ∧ ∀ r, g r ≠ 0 → r ∈ k
theorem prodG_supp {k1 k1' k2 k2' : List Int} {g1 g2 : Int → Rat} (h1 : Cov g1 k1) (h1' : Cov g1 k1') (h2 : Cov g2 k2) (h2' : Cov g2 k2') (u : Int) : prodG k1 k2 g1 g2 u = prodG k1' k2' g1 g2 u := by
  have inner : ∀ r, sumQ (k2.map fun s => if mulR r s = u then g1 r * g2 s * ((gR r s : Int) : Rat) else 0) = sumQ (k2'.map fun s => if mulR r s = u then g1 r * g2 s * ((gR r s : Int) : Rat) else 0) := fun r => by
    have nz : ∀ s, (if mulR r s = u then g1 r * g2 s * ((gR r s : Int) : Rat) else 0) ≠ 0 → g2 s ≠ 0 := fun s hs e => hs (by
      split
      · rw [e]
        grind
      · rfl)
    exact sum_supp h2.1 h2'.1 (fun s hs => h2.2 s (nz s hs)) fun s hs => h2'.2 s (nz s hs)
  unfold prodG
  rw [sumQ_congr fun r _ => inner r]
  have nz : ∀ r, sumQ (k2'.map fun s => if mulR r s = u then g1 r * g2 s * ((gR r s : Int) : Rat) else 0) ≠ 0 → g1 r ≠ 0 := fun r hr e => hr (sumQ_zero fun s _ => by
    split
    · rw [e]
      grind
    · rfl)
  exact sum_supp h1.1 h1'.1 (fun r hr => h1.2 r (nz r hr)) fun r hr => h1'.2 r (nz r hr)
theorem gR_comm (r s : Int) : gR r s = gR s r := by
  unfold gR
  rw [Int.gcd_comm]
theorem mulR_comm (r s : Int) : mulR r s = mulR s r := by
  unfold mulR
  rw [gR_comm r s, Int.mul_comm]
theorem prodG_comm (k1 k2 : List Int) (g1 g2 : Int → Rat) (u : Int) : prodG k1 k2 g1 g2 u = prodG k2 k1 g2 g1 u := by
  unfold prodG
  rw [sumQ_swap]
  refine sumQ_congr fun s _ => sumQ_congr fun r _ => ?_
  rw [mulR_comm r s, gR_comm r s, Rat.mul_comm (g1 r) (g2 s)]
theorem prodG_add (k1 k2 : List Int) (g1 g2 h2 : Int → Rat) (u : Int) : prodG k1 k2 g1 (fun s => g2 s + h2 s) u = prodG k1 k2 g1 g2 u + prodG k1 k2 g1 h2 u := by
  unfold prodG
  rw [← sumQ_add]
  refine sumQ_congr fun r _ => ?_
  rw [← sumQ_add]
  refine sumQ_congr fun s _ => ?_
  split <;> grind
theorem prodG_zero (k1 k2 : List Int) (g1 g2 : Int → Rat) (u : Int) (h : ∀ s, g2 s = 0) : prodG k1 k2 g1 g2 u = 0 := by
  refine sumQ_zero fun r _ => sumQ_zero fun s _ => ?_
  rw [h s]
  split <;> grind
theorem mulR_one {r : Int} (h : 0 < r) : mulR r 1 = r ∧ gR r 1 = 1 := by
  have e : gR r 1 = 1 := by
    unfold gR
    rw [Int.gcd_one_right]
    rfl
  refine ⟨?_, e⟩
  unfold mulR
  rw [e, Int.fdiv_one, Int.fdiv_one, Int.mul_one]
/-- times a fraction -/
theorem prodG_one {k : List Int} {g : Int → Rat} (c : Rat) (hk : Cov g k) (pos : ∀ r ∈ k, 0 < r) (u : Int) : prodG k [1] g (fun s => if s = 1 then c else 0) u = c * g u := by
  have z : prodG k [1] g (fun s => if s = 1 then c else 0) u = sumQ (k.map fun r => if r = u then c * g r else 0) := by
    refine sumQ_congr fun r hr => ?_
    obtain ⟨e1, e2⟩ := mulR_one (pos r hr)
    show (if mulR r 1 = u then g r * (if (1 : Int) = 1 then c else 0) * ((gR r 1 : Int) : Rat) else 0) + 0 = _
    rw [e1, e2, if_pos rfl]
    split <;> grind
  rw [z]
  exact sum_pick (f := fun r => c * g r) hk.1 u fun h => hk.2 u fun e => h (by
    show c * g u = 0
    rw [e]
    grind)
/-- a number by its twin has no root left that p divides -/
theorem prodG_twin {k : List Int} {g : Int → Rat} {p u : Int} (ep : ∀ r ∈ k, ∀ s ∈ k, mulR r s = u → ((r % p = 0) ↔ ¬ (s % p = 0))) : prodG k k g (fun s => g s * (if s % p = 0 then -1 else 1)) u = 0 := by
  have e1 := prodG_comm k k g (fun s => g s * (if s % p = 0 then -1 else 1)) u
  have e2 : prodG k k g (fun s => g s * (if s % p = 0 then -1 else 1)) u + prodG k k (fun s => g s * (if s % p = 0 then -1 else 1)) g u = 0 := by
    unfold prodG
    rw [← sumQ_add]
    refine sumQ_zero fun r hr => ?_
    show sumQ _ + sumQ _ = 0
    rw [← sumQ_add]
    refine sumQ_zero fun s hs => ?_
    show (if mulR r s = u then _ else (0 : Rat)) + (if mulR r s = u then _ else 0) = 0
    by_cases e : mulR r s = u
    · rw [if_pos e, if_pos e]
      show g r * (g s * (if s % p = 0 then (-1 : Rat) else 1)) * ((gR r s : Int) : Rat) + g r * (if r % p = 0 then (-1 : Rat) else 1) * g s * ((gR r s : Int) : Rat) = 0
      have := ep r hr s hs e
      by_cases a : r % p = 0
      · rw [if_pos a, if_neg (this.mp a)]
        grind
      · have b : s % p = 0 := Classical.byContradiction fun z => a (this.mpr z)
        rw [if_neg a, if_pos b]
        grind
    · rw [if_neg e, if_neg e]
      grind
  grind
end TC
/-! roots of factorials: a square times a number free of squares, in one way only. -/
namespace TCX
/-- free of squares -/
def SqF (r : Nat) : Prop := ∀ d : Nat, d * d ∣ r → d = 1
theorem SqF.dvd {r s : Nat} (h : SqF r) (e : s ∣ r) : SqF s := fun d hd => h d (Nat.dvd_trans hd e)
theorem SqF.pos {r : Nat} (h : SqF r) : 0 < r := by
  refine Nat.pos_of_ne_zero fun e => ?_
  have := h 0 (by rw [e]; exact Nat.dvd_refl 0)
  cases this
/-- for coprime x, y: x x r = y y f with both free of squares makes x = y = 1 -/
theorem sq_cop {x y r f : Nat} (c : Nat.Coprime x y) (hr : SqF r) (hf : SqF f) (e : x * x * r = y * y * f) : x = 1 ∧ y = 1 := by
  have c2 : Nat.Coprime (x * x) (y * y) := Nat.Coprime.mul_left (Nat.Coprime.mul_right c c) (Nat.Coprime.mul_right c c)
  refine ⟨hf x ?_, hr y ?_⟩
  · exact Nat.Coprime.dvd_of_dvd_mul_left c2 (by rw [← e]; exact Nat.dvd_mul_right _ _)
  · exact Nat.Coprime.dvd_of_dvd_mul_left c2.symm (by rw [e]; exact Nat.dvd_mul_right _ _)
theorem sq_uniq {x y r f : Nat} (hx : 0 < x) (hr : SqF r) (hf : SqF f) (e : x * x * r = y * y * f) : x = y ∧ r = f := by
  have g0 : 0 < Nat.gcd x y := Nat.gcd_pos_of_pos_left _ hx
  obtain ⟨a, ha⟩ := Nat.gcd_dvd_left x y
  obtain ⟨b, hb⟩ := Nat.gcd_dvd_right x y
  have cop : Nat.Coprime a b := by
    have z := Nat.gcd_mul_left (Nat.gcd x y) a b
    rw [← ha, ← hb] at z
    have z2 : Nat.gcd x y * 1 = Nat.gcd x y * Nat.gcd a b := by rw [Nat.mul_one]; exact z
    exact (Nat.eq_of_mul_eq_mul_left g0 z2).symm
  have e2 : a * a * r = b * b * f := by
    have h1 : x * x * r = (Nat.gcd x y * Nat.gcd x y) * (a * a * r) := by
      conv => lhs; rw [ha]
      simp only [Nat.mul_assoc, Nat.mul_left_comm, Nat.mul_comm]
    have h2 : y * y * f = (Nat.gcd x y * Nat.gcd x y) * (b * b * f) := by
      conv => lhs; rw [hb]
      simp only [Nat.mul_assoc, Nat.mul_left_comm, Nat.mul_comm]
    rw [h1, h2] at e
    exact Nat.eq_of_mul_eq_mul_left (Nat.mul_pos g0 g0) e
  obtain ⟨ea, eb⟩ := sq_cop cop hr hf e2
  subst ea eb
  refine ⟨?_, by simpa using e2⟩
  rw [ha]
  conv => rhs; rw [hb]
/-! ### primes -/
def IsP (p : Nat) : Prop := 1 < p ∧ ∀ d, d ∣ p → d = 1 ∨ d = p
def pr30 : List Nat := [2, 3, 5, 7, 11, 13, 17, 19, 23, 29, 31, 37, 41, 43, 47, 53, 59, 61, 67, 71, 73, 79, 83, 89, 97, 101, 103, 107, 109, 113]
theorem pr30_b : ∀ p ∈ pr30, 1 < p ∧ ∀ d, d < p + 1 → d ∣ p → d = 1 ∨ d = p := by decide +kernel
theorem pr30_p : ∀ p ∈ pr30, IsP p := fun p hp => by
  obtain ⟨h1, h2⟩ := pr30_b p hp
  exact ⟨h1, fun d hd => h2 d (Nat.lt_succ_of_le (Nat.le_of_dvd (by omega) hd)) hd⟩
theorem pr30_nd : pr30.Nodup := by decide +kernel
theorem IsP.cop {p d : Nat} (h : IsP p) (hd : ¬ p ∣ d) : Nat.Coprime p d := by
  rcases h.2 _ (Nat.gcd_dvd_left p d) with e | e
  · exact e
  · exact absurd (e ▸ Nat.gcd_dvd_right p d) hd
theorem SqF.one : SqF 1 := fun d hd => by
  have := Nat.eq_one_of_dvd_one hd
  exact Nat.eq_one_of_mul_eq_one_left this
theorem SqF.mul {p m : Nat} (hp : IsP p) (hm : SqF m) (hn : ¬ p ∣ m) : SqF (p * m) := fun d hd => by
  by_cases h : p ∣ d
  · obtain ⟨k, rfl⟩ := h
    refine absurd ?_ hn
    have z : p * (p * (k * k)) ∣ p * m := by
      have e : p * k * (p * k) = p * (p * (k * k)) := by
        simp only [Nat.mul_assoc, Nat.mul_left_comm, Nat.mul_comm]
      rw [e] at hd
      exact hd
    have z2 := Nat.dvd_of_mul_dvd_mul_left (by have := hp.1; omega) z
    exact Nat.dvd_trans (Nat.dvd_mul_right _ _) z2
  · have c := hp.cop h
    have c2 : Nat.Coprime (d * d) p := (Nat.Coprime.mul_right c c).symm
    exact hm d (Nat.Coprime.dvd_of_dvd_mul_left c2 hd)
theorem IsP.dvd_mul {p a b : Nat} (h : IsP p) (hd : p ∣ a * b) : p ∣ a ∨ p ∣ b := by
  by_cases z : p ∣ a
  · exact .inl z
  · exact .inr (Nat.Coprime.dvd_of_dvd_mul_left (h.cop z) hd)
/-- the product of those of a list that are asked for -/
def pickP (f : Nat → Bool) (l : List Nat) : Nat := l.foldr (fun p m => if f p then p * m else m) 1
theorem pick_not {f : Nat → Bool} {q : Nat} (hq : IsP q) : ∀ {l : List Nat}, (∀ p ∈ l, IsP p) → q ∉ l → ¬ q ∣ pickP f l
  | [], _, _ => fun h => by
    have := Nat.eq_one_of_dvd_one h
    have := hq.1
    omega
  | p :: l, hp, hn => fun h => by
    have ih := pick_not (f := f) hq (fun r hr => hp r (List.mem_cons_of_mem _ hr)) (fun z => hn (List.mem_cons_of_mem _ z))
    have e : pickP f (p :: l) = if f p then p * pickP f l else pickP f l := rfl
    rw [e] at h
    split at h
    · rcases hq.dvd_mul h with h | h
      · rcases (hp p (by simp)).2 q h with e | e
        · have := hq.1
          omega
        · exact hn (by rw [e]; simp)
      · exact ih h
    · exact ih h
theorem pick_sqF {f : Nat → Bool} : ∀ {l : List Nat}, (∀ p ∈ l, IsP p) → l.Nodup → SqF (pickP f l)
  | [], _, _ => SqF.one
  | p :: l, hp, nd => by
    have n := List.nodup_cons.mp nd
    have hl : ∀ r ∈ l, IsP r := fun r hr => hp r (List.mem_cons_of_mem _ hr)
    have ih := pick_sqF (f := f) hl n.2
    have e : pickP f (p :: l) = if f p then p * pickP f l else pickP f l := rfl
    rw [e]
    split
    · exact SqF.mul (hp p (by simp)) ih (pick_not (hp p (by simp)) hl n.1)
    · exact ih
/-! ### factorials -/
def factN : Nat → Nat
  | 0 => 1
  | n + 1 => (n + 1) * factN n
/-- how often p is in n!, by the powers of p to 122 -/
def legN (n p : Nat) : Nat := n / p + n / (p * p) + n / (p * p * p) + n / (p * p * p * p) + n / (p * p * p * p * p) + n / (p * p * p * p * p * p)
def powP (e : Nat → Nat) (l : List Nat) : Nat := l.foldr (fun p m => p ^ e p * m) 1
theorem fact_leg : ∀ n, n < 123 → factN n = powP (legN n) pr30 := by decide +kernel
theorem powP_mul (e f : Nat → Nat) : ∀ l : List Nat, powP e l * powP f l = powP (fun p => e p + f p) l
  | [] => rfl
  | p :: l => by
    show p ^ e p * powP e l * (p ^ f p * powP f l) = p ^ (e p + f p) * powP (fun p => e p + f p) l
    rw [← powP_mul e f l, Nat.pow_add]
    simp only [Nat.mul_assoc, Nat.mul_left_comm, Nat.mul_comm]
theorem powP_congr {e f : Nat → Nat} : ∀ {l : List Nat}, (∀ p ∈ l, e p = f p) → powP e l = powP f l
  | [], _ => rfl
  | p :: l, h => by
    show p ^ e p * powP e l = p ^ f p * powP f l
    rw [h p (by simp), powP_congr fun r hr => h r (List.mem_cons_of_mem _ hr)]
theorem powP_pos {e : Nat → Nat} : ∀ {l : List Nat}, (∀ p ∈ l, IsP p) → 0 < powP e l
  | [], _ => Nat.one_pos
  | p :: l, h => by
    have h1 := (h p (by simp)).1
    exact Nat.mul_pos (Nat.pow_pos (by omega)) (powP_pos fun r hr => h r (List.mem_cons_of_mem _ hr))
theorem pick_pow (f : Nat → Bool) : ∀ l : List Nat, pickP f l = powP (fun p => if f p then 1 else 0) l
  | [] => rfl
  | p :: l => by
    have e : pickP f (p :: l) = if f p then p * pickP f l else pickP f l := rfl
    rw [e, pick_pow f l]
    show _ = p ^ (if f p then 1 else 0) * powP (fun p => if f p then 1 else 0) l
    split
    · rw [Nat.pow_one]
    · rw [Nat.pow_zero, Nat.one_mul]
/-- the factorials of a list, multiplied -/
def prodF (l : List Nat) : Nat := l.foldr (fun n m => factN n * m) 1
def sumL (l : List Nat) (p : Nat) : Nat := l.foldr (fun n m => legN n p + m) 0
theorem powP_zero : ∀ l : List Nat, powP (fun _ => 0) l = 1
  | [] => rfl
  | p :: l => by
    show p ^ 0 * powP (fun _ => 0) l = 1
    rw [powP_zero l]
    rfl
theorem prodF_leg : ∀ {l : List Nat}, (∀ n ∈ l, n < 123) → prodF l = powP (sumL l) pr30
  | [], _ => (powP_zero pr30).symm
  | n :: l, h => by
    show factN n * prodF l = _
    rw [fact_leg n (h n (by simp)), prodF_leg fun m hm => h m (List.mem_cons_of_mem _ hm), powP_mul]
    rfl
/-- the power of p in the quotient of two products of factorials -/
def expE (above below : List Nat) (p : Nat) : Int := (sumL above p : Int) - (sumL below p : Int)
def topE (above below : List Nat) : Nat := powP (fun p => (expE above below p / 2).toNat) pr30
def botE (above below : List Nat) : Nat := powP (fun p => (-(expE above below p / 2)).toNat) pr30
def rootE (above below : List Nat) : Nat := pickP (fun p => decide (expE above below p % 2 = 1)) pr30
theorem rootE_sqF (above below : List Nat) : SqF (rootE above below) := pick_sqF pr30_p pr30_nd
theorem topE_pos (above below : List Nat) : 0 < topE above below := powP_pos pr30_p
theorem botE_pos (above below : List Nat) : 0 < botE above below := powP_pos pr30_p
/-- (top / bottom) squared times the root is the quotient -/
theorem rootE_ok {above below : List Nat} (ha : ∀ n ∈ above, n < 123) (hb : ∀ n ∈ below, n < 123) :
    topE above below * topE above below * rootE above below * prodF below = botE above below * botE above below * prodF above := by
  unfold topE botE rootE
  rw [pick_pow, prodF_leg ha, prodF_leg hb]
  simp only [powP_mul]
  refine powP_congr fun p _ => ?_
  have e : expE above below p = (sumL above p : Int) - (sumL below p : Int) := rfl
  generalize sumL above p = A at e ⊢
  generalize sumL below p = B at e ⊢
  generalize expE above below p = x at e ⊢
  by_cases h : x % 2 = 1
  · rw [decide_eq_true h]
    simp only [if_true]
    omega
  · rw [decide_eq_false h]
    show _ + _ + 0 + _ = _
    omega
/-- powers of different primes have no divisor in common -/
theorem cop_pow {q : Nat} (hq : IsP q) {e : Nat → Nat} : ∀ {l : List Nat}, (∀ p ∈ l, IsP p) → q ∉ l → Nat.Coprime q (powP e l)
  | [], _, _ => Nat.coprime_one_right q
  | p :: l, hp, hn => by
    have ih := cop_pow hq (e := e) (fun r hr => hp r (List.mem_cons_of_mem _ hr)) (fun z => hn (List.mem_cons_of_mem _ z))
    have c : Nat.Coprime q p := hq.cop fun z => by
      rcases (hp p (by simp)).2 q z with e | e
      · have := hq.1
        omega
      · exact hn (by rw [e]; simp)
    exact Nat.Coprime.mul_right (Nat.Coprime.pow_right _ c) ih
theorem powP_cop {e f : Nat → Nat} : ∀ {l : List Nat}, (∀ p ∈ l, IsP p) → l.Nodup → (∀ p ∈ l, e p = 0 ∨ f p = 0) → Nat.Coprime (powP e l) (powP f l)
  | [], _, _, _ => Nat.coprime_one_right 1
  | p :: l, hp, nd, h => by
    have n := List.nodup_cons.mp nd
    have hl : ∀ r ∈ l, IsP r := fun r hr => hp r (List.mem_cons_of_mem _ hr)
    have ih := powP_cop hl n.2 fun r hr => h r (List.mem_cons_of_mem _ hr)
    have hpp := hp p (by simp)
    show Nat.Coprime (p ^ e p * powP e l) (p ^ f p * powP f l)
    rcases h p (by simp) with z | z
    · rw [z, Nat.pow_zero, Nat.one_mul]
      exact Nat.Coprime.mul_right (Nat.Coprime.pow_right _ (cop_pow hpp hl n.1).symm) ih
    · rw [z, Nat.pow_zero, Nat.one_mul]
      exact Nat.Coprime.mul_left (Nat.Coprime.pow_left _ (cop_pow hpp hl n.1)) ih
theorem topE_cop (above below : List Nat) : Nat.Coprime (topE above below) (botE above below) := powP_cop pr30_p pr30_nd fun p _ => by omega
end TCX
/-! the powers of primes by counts. -/
namespace TCX
/-- how many of l are at least m -/
def geL (l : List Nat) (m : Nat) : Int := l.foldr (fun n k => (if m ≤ n then 1 else 0) + k) 0
/-- how many of l are m -/
def eqL (l : List Nat) (m : Nat) : Int := l.foldr (fun n k => (if n = m then 1 else 0) + k) 0
theorem ge_step (l : List Nat) (m : Nat) : geL l m = eqL l m + geL l (m + 1) := by
  induction l with
  | nil => rfl
  | cons n l ih =>
    show (if m ≤ n then 1 else 0) + geL l m = (if n = m then 1 else 0) + eqL l m + ((if m + 1 ≤ n then 1 else 0) + geL l (m + 1))
    rw [ih]
    split <;> split <;> split <;> omega
theorem ge_top {l : List Nat} {h m : Nat} (hl : ∀ n ∈ l, n ≤ h) (hm : h < m) : geL l m = 0 := by
  induction l with
  | nil => rfl
  | cons n l ih =>
    show (if m ≤ n then 1 else 0) + geL l m = 0
    rw [ih fun r hr => hl r (List.mem_cons_of_mem _ hr), if_neg (by have := hl n (by simp); omega)]
    rfl
/-- the quotients by s, summed -/
def divS (l : List Nat) (s : Nat) : Int := l.foldr (fun n k => ((n / s : Nat) : Int) + k) 0
theorem one_mult (n s : Nat) (s0 : 0 < s) : ∀ J : Nat, ((List.range J).map fun j => if (j + 1) * s ≤ n then (1 : Int) else 0).sum = ((min J (n / s) : Nat) : Int)
  | 0 => by simp
  | J + 1 => by
    rw [List.range_succ, List.map_append, List.sum_append, one_mult n s s0 J]
    show _ + ((if (J + 1) * s ≤ n then (1 : Int) else 0) + 0) = _
    have e : (J + 1) * s ≤ n ↔ J + 1 ≤ n / s := (Nat.le_div_iff_mul_le s0).symm
    by_cases h : (J + 1) * s ≤ n
    · have h2 := e.mp h
      rw [if_pos h]
      omega
    · have h2 : ¬ J + 1 ≤ n / s := fun z => h (e.mpr z)
      rw [if_neg h]
      omega
theorem sum_add (f g : Nat → Int) : ∀ l : List Nat, (l.map fun j => f j + g j).sum = (l.map f).sum + (l.map g).sum
  | [] => rfl
  | x :: l => by
    rw [List.map_cons, List.sum_cons, List.map_cons, List.sum_cons, List.map_cons, List.sum_cons, sum_add f g l]
    omega
theorem mult_sum {h s : Nat} (s0 : 0 < s) : ∀ {l : List Nat}, (∀ n ∈ l, n ≤ h) → ((List.range (h / s)).map fun j => geL l ((j + 1) * s)).sum = divS l s
  | [], _ => by
    have : ∀ J : Nat, ((List.range J).map fun j => geL [] ((j + 1) * s)).sum = 0 := fun J => by
      induction J with
      | zero => rfl
      | succ J ih =>
        rw [List.range_succ, List.map_append, List.sum_append, ih]
        rfl
    exact this _
  | n :: l, hl => by
    show ((List.range (h / s)).map fun j => (if (j + 1) * s ≤ n then (1 : Int) else 0) + geL l ((j + 1) * s)).sum = ((n / s : Nat) : Int) + divS l s
    rw [sum_add, mult_sum s0 fun r hr => hl r (List.mem_cons_of_mem _ hr), one_mult n s s0]
    have := Nat.div_le_div_right (c := s) (hl n (by simp))
    rw [Nat.min_eq_right this]
theorem divS_zero {h s : Nat} {l : List Nat} (hl : ∀ n ∈ l, n ≤ h) (hs : h < s) : divS l s = 0 := by
  induction l with
  | nil => rfl
  | cons n l ih =>
    show ((n / s : Nat) : Int) + divS l s = 0
    rw [ih fun r hr => hl r (List.mem_cons_of_mem _ hr), Nat.div_eq_of_lt (by have := hl n (by simp); omega)]
    rfl
theorem sumL_div (l : List Nat) (p : Nat) : (sumL l p : Int) = divS l p + divS l (p * p) + divS l (p * p * p) + divS l (p * p * p * p) + divS l (p * p * p * p * p) + divS l (p * p * p * p * p * p) := by
  induction l with
  | nil => rfl
  | cons n l ih =>
    show ((legN n p + sumL l p : Nat) : Int) = _
    unfold legN
    show _ = (((n / p : Nat) : Int) + divS l p) + (((n / (p * p) : Nat) : Int) + divS l (p * p)) + (((n / (p * p * p) : Nat) : Int) + divS l (p * p * p)) + (((n / (p * p * p * p) : Nat) : Int) + divS l (p * p * p * p)) + (((n / (p * p * p * p * p) : Nat) : Int) + divS l (p * p * p * p * p)) + (((n / (p * p * p * p * p * p) : Nat) : Int) + divS l (p * p * p * p * p * p))
    omega
/-- what is counted at s -/
def atS (above below : List Nat) (s : Nat) : Int := divS above s - divS below s
def runE (above below : List Nat) (p : Nat) : Nat → Int
  | 0 => 0
  | k + 1 => runE above below p k + atS above below (p ^ (k + 1))
theorem runE_all (above below : List Nat) (p : Nat) : runE above below p 6 = expE above below p := by
  unfold expE
  rw [sumL_div, sumL_div]
  show 0 + atS above below (p ^ 1) + atS above below (p ^ 2) + atS above below (p ^ 3) + atS above below (p ^ 4) + atS above below (p ^ 5) + atS above below (p ^ 6) = _
  have e1 : p ^ 1 = p := Nat.pow_one p
  have e2 : p ^ 2 = p * p := by rw [Nat.pow_succ, e1]
  have e3 : p ^ 3 = p * p * p := by rw [Nat.pow_succ, e2]
  have e4 : p ^ 4 = p * p * p * p := by rw [Nat.pow_succ, e3]
  have e5 : p ^ 5 = p * p * p * p * p := by rw [Nat.pow_succ, e4]
  have e6 : p ^ 6 = p * p * p * p * p * p := by rw [Nat.pow_succ, e5]
  rw [e1, e2, e3, e4, e5, e6]
  unfold atS
  omega
/-- nothing more is counted beyond the highest -/
theorem runE_end {above below : List Nat} {h p k : Nat} (p1 : 1 < p) (ha : ∀ n ∈ above, n ≤ h) (hb : ∀ n ∈ below, n ≤ h) (hk : h < p ^ (k + 1)) (k6 : k ≤ 6) : runE above below p k = expE above below p := by
  rw [← runE_all]
  have key : ∀ d, runE above below p (k + d) = runE above below p k := fun d => by
    induction d with
    | zero => rfl
    | succ d ih =>
      show runE above below p (k + d) + atS above below (p ^ (k + d + 1)) = _
      have : p ^ (k + 1) ≤ p ^ (k + d + 1) := Nat.pow_le_pow_right (by omega) (by omega)
      unfold atS
      rw [ih, divS_zero ha (by omega), divS_zero hb (by omega)]
      omega
  have e := key (6 - k)
  rw [show k + (6 - k) = 6 by omega] at e
  exact e.symm
end TCX
/-! a number parted into a square and what is free of squares, by trying. -/
namespace TCX
structure RootI (N left free square p : Nat) : Prop where
  eq : left * free * (square * square) = N
  l0 : 0 < left
  s0 : 0 < square
  p1 : 1 < p
  sf : SqF free
  i1 : ∀ d, 1 < d → d < p → ¬ d ∣ left
  i2 : p ∣ free → ¬ p ∣ left
  i3 : ∀ d, 1 < d → d ∣ free → ∃ q, 1 < q ∧ q ≤ p ∧ q ∣ d
theorem RootI.start {N : Nat} (h : 0 < N) : RootI N N 1 1 2 :=
  ⟨by simp, h, by decide, by decide, SqF.one, fun d h1 h2 => by omega, fun z => by have := Nat.eq_one_of_dvd_one z; omega, fun d h1 h2 => by have := Nat.eq_one_of_dvd_one h2; omega⟩
/-- where p divides what is left, it is a prime -/
theorem RootI.prime {N left free square p : Nat} (h : RootI N left free square p) (hd : p ∣ left) : IsP p := by
  refine ⟨h.p1, fun d dp => ?_⟩
  by_cases h1 : d = 1
  · exact .inl h1
  · by_cases h2 : d = p
    · exact .inr h2
    · have h3 := Nat.le_of_dvd (by have := h.p1; omega) dp
      have h4 : 0 < d := Nat.pos_of_dvd_of_pos dp (by have := h.p1; omega)
      exact absurd (Nat.dvd_trans dp hd) (h.i1 d (by omega) (by omega))
theorem RootI.le {N left free square p : Nat} (h : RootI N left free square p) (hl : 1 < left) : p ≤ left := by
  refine Nat.le_of_not_lt fun z => ?_
  exact h.i1 left hl z (Nat.dvd_refl _)
theorem RootI.sq {N left free square p : Nat} (h : RootI N left free square p) (hd : p * p ∣ left) : RootI N (left / (p * p)) free (square * p) p := by
  have pp : 0 < p * p := Nat.mul_pos (by have := h.p1; omega) (by have := h.p1; omega)
  obtain ⟨k, rfl⟩ := hd
  rw [Nat.mul_div_cancel_left k pp]
  have kd : ∀ d, d ∣ k → d ∣ p * p * k := fun d z => Nat.dvd_trans z (Nat.dvd_mul_left _ _)
  have k0 : 0 < k := Nat.pos_of_ne_zero fun e => by
    have := h.l0
    rw [e, Nat.mul_zero] at this
    omega
  refine ⟨?_, k0, Nat.mul_pos h.s0 (by have := h.p1; omega), h.p1, h.sf, fun d h1 h2 z => h.i1 d h1 h2 (kd d z), fun z y => h.i2 z (kd p y), h.i3⟩
  rw [← h.eq]
  simp only [Nat.mul_assoc, Nat.mul_left_comm, Nat.mul_comm]
theorem RootI.once {N left free square p : Nat} (h : RootI N left free square p) (hn : ¬ p * p ∣ left) (hd : p ∣ left) : RootI N (left / p) (free * p) square p := by
  have hp := h.prime hd
  have p0 : 0 < p := by have := h.p1; omega
  have nf : ¬ p ∣ free := fun z => h.i2 z hd
  obtain ⟨k, rfl⟩ := hd
  rw [Nat.mul_div_cancel_left k p0]
  have kd : ∀ d, d ∣ k → d ∣ p * k := fun d z => Nat.dvd_trans z (Nat.dvd_mul_left _ _)
  have k0 : 0 < k := Nat.pos_of_ne_zero fun e => by
    have := h.l0
    rw [e, Nat.mul_zero] at this
    omega
  refine ⟨?_, k0, h.s0, h.p1, ?_, fun d h1 h2 z => h.i1 d h1 h2 (kd d z), fun _ y => hn (Nat.mul_dvd_mul_left p y), fun d h1 h2 => ?_⟩
  · rw [← h.eq]
    simp only [Nat.mul_assoc, Nat.mul_left_comm, Nat.mul_comm]
  · rw [Nat.mul_comm]
    exact SqF.mul hp h.sf nf
  · by_cases z : p ∣ d
    · exact ⟨p, h.p1, Nat.le_refl _, z⟩
    · have c := (hp.cop z).symm
      rw [Nat.mul_comm] at h2
      exact h.i3 d h1 (Nat.Coprime.dvd_of_dvd_mul_left c h2)
theorem RootI.up {N left free square p : Nat} (h : RootI N left free square p) (hd : ¬ p ∣ left) : RootI N left free square (p + 1) := by
  have i1 : ∀ d, 1 < d → d < p + 1 → ¬ d ∣ left := fun d h1 h2 => by
    by_cases e : d = p
    · rw [e]
      exact hd
    · exact h.i1 d h1 (by omega)
  refine ⟨h.eq, h.l0, h.s0, by have := h.p1; omega, h.sf, i1, fun z y => ?_, fun d h1 h2 => ?_⟩
  · obtain ⟨q, q1, q2, q3⟩ := h.i3 (p + 1) (by have := h.p1; omega) z
    exact i1 q q1 (by omega) (Nat.dvd_trans q3 y)
  · obtain ⟨q, q1, q2, q3⟩ := h.i3 d h1 h2
    exact ⟨q, q1, by omega, q3⟩
theorem RootI.done {N left free square p : Nat} (h : RootI N left free square p) (hl : ¬ 1 < left) : N = square * square * free ∧ SqF free ∧ 0 < square := by
  have e : left = 1 := by have := h.l0; omega
  refine ⟨?_, h.sf, h.s0⟩
  rw [← h.eq, e, Nat.one_mul, Nat.mul_comm]
/-- the root by the primes and the root by trying are one: root and fraction -/
theorem root_one {above below : List Nat} (ha : ∀ n ∈ above, n < 123) (hb : ∀ n ∈ below, n < 123) {up under free square : Nat} (hu : 0 < under) (hq : up * prodF below = under * prodF above) (hN : up * under = square * square * free) (hs : 0 < square) (hf : SqF free) :
    rootE above below = free ∧ topE above below * under = square * botE above below := by
  have pb : 0 < prodF below := by
    rw [prodF_leg hb]
    exact powP_pos pr30_p
  have pa : 0 < prodF above := by
    rw [prodF_leg ha]
    exact powP_pos pr30_p
  have e := rootE_ok ha hb
  -- (top * under)^2 root = (square * bot)^2 free
  have key : (topE above below * under) * (topE above below * under) * rootE above below = (square * botE above below) * (square * botE above below) * free := by
    have z : (topE above below * under) * (topE above below * under) * rootE above below * prodF below = (square * botE above below) * (square * botE above below) * free * prodF below := by
      calc (topE above below * under) * (topE above below * under) * rootE above below * prodF below
          = under * under * (topE above below * topE above below * rootE above below * prodF below) := by simp only [Nat.mul_assoc, Nat.mul_left_comm, Nat.mul_comm]
        _ = under * under * (botE above below * botE above below * prodF above) := by rw [e]
        _ = (botE above below * botE above below * under) * (under * prodF above) := by simp only [Nat.mul_assoc, Nat.mul_left_comm, Nat.mul_comm]
        _ = (botE above below * botE above below * under) * (up * prodF below) := by rw [hq]
        _ = (botE above below * botE above below) * (up * under) * prodF below := by simp only [Nat.mul_assoc, Nat.mul_left_comm, Nat.mul_comm]
        _ = (botE above below * botE above below) * (square * square * free) * prodF below := by rw [hN]
        _ = _ := by simp only [Nat.mul_assoc, Nat.mul_left_comm, Nat.mul_comm]
    exact Nat.eq_of_mul_eq_mul_right pb z
  obtain ⟨h1, h2⟩ := sq_uniq (Nat.mul_pos (topE_pos _ _) hu) (rootE_sqF _ _) hf key
  exact ⟨h2, h1⟩
end TCX
namespace TC
open PySem PySem.Spec PyProof.Rows L2 TCX
section
variable {P : Program} {w : World} {K : PySem.W.Frag} {mg : Str → Option Value} {base : Heap} {f : Addr} {fd : FuncData}
/-! ### is_odd -/
def spOdd : Sp := fun vs H Q _ => ∃ n : Int, vs = [.int n] ∧ Q (.bl (decide (n % 2 = 1))) H
abbrev nOdd : List Str := ["number"]
theorem scOdd : FnScope nOdd ["number"] (defScope sOdd) := ⟨rfl, rfl, rfl, by decide +kernel, rfl, by decide +kernel, by decide +kernel⟩
theorem ok_odd (F : FnP K "is_odd" sOdd f fd) : FnOk P w K mg base CX0 1 f fd ["number"] spOdd := by
  refine F.ok scOdd (fun vs H Q E h => ?_) (fun cdv A outer s H vs Q E hr h => ?_)
  · obtain ⟨_, rfl, _⟩ := h
    rfl
  · obtain ⟨n, rfl, q⟩ := h
    refine ⟨_, PSs.nox (pss_one (ps_ret (pe_cmpR op_eq (pe_op op_mod (pv 0) pe_int) pe_int (nomark _)))), ?_⟩
    refine ⟨_, rfl, n, 2, rfl, rfl, (by show (0 : Int) < 2; decide), rfl, ?_⟩
    have e : decide (V.int (n % 2) = V.int 1) = decide (n % 2 = 1) := by
      by_cases h : n % 2 = 1
      · rw [h]
        rfl
      · rw [decide_eq_false h, decide_eq_false fun z => h (V.int.inj z)]
    show Q (.bl (decide (V.int (n % 2) = V.int 1))) _
    rw [e]
    exact q
/-! ### _law_factorial -/
def spFactL : Sp := fun vs H Q _ => ∃ n : Nat, vs = [.int n] ∧ n ≤ 200 ∧ Q (.int (factN n : Nat)) H
abbrev nFactorial : List Str := ["_law_n", "_law_found", "_law_k"]
theorem scFactorial : FnScope nFactorial ["_law_n"] (defScope sFactorial) := ⟨rfl, rfl, rfl, by decide +kernel, rfl, by decide +kernel, by decide +kernel⟩
theorem ok_factL (F : FnP K "_law_factorial" sFactorial f fd) (grange : mg "range" = none) : FnOk P w K mg base CX0 1 f fd ["_law_n"] spFactL := by
  refine F.ok scFactorial (fun vs H Q E h => ?_) (fun cdv A outer s H vs Q E hr h => ?_)
  · obtain ⟨_, rfl, _⟩ := h
    rfl
  · obtain ⟨n, rfl, n1, q⟩ := h
    refine ⟨_, PSs.nox (pss_cons (ps_set (i := 1) scFactorial.nd rfl (.inl rfl) pe_int)
      (pss_cons (ps_for PassesOwn.never rfl (pi_range2 (by rfl) grange (pa_cons pe_int (pa_cons (pe_op op_add (pv 0) pe_int) pa_nil))) (pg_name (i := 2) scFactorial.nd rfl (.inl rfl))
        (pss_one (ps_set (i := 1) scFactorial.nd rfl (.inl rfl) (pe_op op_mul (pv 1) (pv 2)))))
      (pss_one (ps_ret (pv 1))))), ?_⟩
    refine ⟨_, rfl, n, 1, rfl, rfl, ?_⟩
    refine ⟨2, (n : Int) + 1, rfl, ⟨by decide, by decide, by omega, by omega⟩, for_range (fun i σ H' => ∃ (v2 : Option V), σ = [some (.int n), some (.int (factN (i + 1) : Nat)), v2] ∧ H' = H ∧ i + 1 ≤ max n 1) ⟨none, rfl, rfl, by omega⟩ (fun i σ H' hi hP => ?_) (fun σ H' hP => ?_)⟩
    · obtain ⟨v2, rfl, rfl, hm⟩ := hP
      have hi' : i < n - 1 := by omega
      refine ⟨_, rfl, _, rfl, _, _, rfl, rfl, .inr ⟨by omega, by omega⟩, ⟨some (.int (2 + (i : Int))), ?_, rfl, by omega⟩⟩
      have e : ((factN (i + 1) : Nat) : Int) * (2 + (i : Int)) = (factN (i + 1 + 1) : Nat) := by
        show _ = (((i + 1 + 1) * factN (i + 1) : Nat) : Int)
        push_cast
        rw [Int.mul_comm]
        congr 1
        omega
      show [some (V.int n), some (V.int (((factN (i + 1) : Nat) : Int) * (2 + (i : Int)))), some (V.int (2 + (i : Int)))] = _
      rw [e]
    · obtain ⟨v2, rfl, rfl, hm⟩ := hP
      refine ⟨_, rfl, ?_⟩
      have e : factN (((n : Int) + 1 - 2).toNat + 1) = factN n := by
        match n with
        | 0 => rfl
        | k + 1 =>
          rw [show (((k + 1 : Nat) : Int) + 1 - 2).toNat + 1 = k + 1 by omega]
      rw [e]
      exact q
/-! ### factorials -/
def spFacts : Sp := fun vs H Q _ => ∃ n : Nat, vs = [.int n] ∧ n ≤ 200 ∧ ∀ l, H l = none → Q (.ref l) (upd H l (.lst ((List.range (n + 1)).map fun m => V.int (factN m : Nat))))
abbrev nFacts : List Str := ["high", "found", "number"]
theorem scFacts : FnScope nFacts ["high"] (defScope sFacts) := ⟨rfl, rfl, rfl, by decide +kernel, rfl, by decide +kernel, by decide +kernel⟩
theorem ok_facts (F : FnP K "factorials" sFacts f fd) (grange : mg "range" = none) : FnOk P w K mg base CX0 1 f fd ["high"] spFacts := by
  refine F.ok scFacts (fun vs H Q E h => ?_) (fun cdv A outer s H vs Q E hr h => ?_)
  · obtain ⟨_, rfl, _⟩ := h
    rfl
  · obtain ⟨n, rfl, n1, q⟩ := h
    refine ⟨_, PSs.nox (pss_cons (ps_set (i := 1) scFacts.nd rfl (.inl rfl) (pe_lst (pa_cons pe_int pa_nil)))
      (pss_cons (ps_for PassesOwn.never rfl (pi_range2 (by rfl) grange (pa_cons pe_int (pa_cons (pe_op op_add (pv 0) pe_int) pa_nil))) (pg_name (i := 2) scFacts.nd rfl (.inl rfl))
        (pss_one (ps_expr (pe_bm PySem.F.plainAttrs_list PySem.F.slot_list_append PySem.F.type_list_append mt_append (pv 1) (pa_cons (pe_op op_mul (pe_ix ix_list (pv 1) (pe_un un_neg pe_int) (fun _ _ => rfl)) (pv 2)) pa_nil)))))
      (pss_one (ps_ret (pv 1))))), ?_⟩
    refine ⟨by show 1 ≤ sizeLine; decide, fun l hl => ?_⟩
    refine ⟨_, rfl, n, 1, rfl, rfl, 1, (n : Int) + 1, rfl, ⟨by decide, by decide, by omega, by omega⟩, for_range (fun i σ H' => ∃ (v2 : Option V), σ = [some (.int n), some (.ref l), v2] ∧ H' = upd H l (.lst ((List.range (i + 1)).map fun m => V.int (factN m : Nat))) ∧ i ≤ n) ⟨none, rfl, rfl, by omega⟩ (fun i σ H' hi hP => ?_) (fun σ H' hP => ?_)⟩
    · obtain ⟨v2, rfl, rfl, hm⟩ := hP
      have hi' : i < n := by omega
      have hat : atI ((List.range (i + 1)).map fun m => V.int (factN m : Nat)) (-1) = some (.int (factN i : Nat)) := by
        rw [List.range_succ, List.map_append]
        exact atI_last _ _
      refine ⟨_, rfl, .inl ⟨rfl, _, SqL.of upd_same⟩, _, rfl, 1, rfl, l, _, -1, _, rfl, rfl, SqL.of upd_same, hat, _, rfl, _, _, rfl, rfl, .inr ⟨by omega, by omega⟩, l, _, _, rfl, rfl, upd_same, ?_, _, rfl, ?_, by omega⟩
      · rw [List.length_map, List.length_range, sizeLine_eq]
        omega
      · funext b
        by_cases hb : b = l
        · rw [hb, upd_same, upd_same, List.range_succ (n := i + 1), List.map_append]
          congr 3
          show [V.int _] = [V.int _]
          congr 2
          show _ = (((i + 1) * factN i : Nat) : Int)
          push_cast
          rw [Int.mul_comm]
          congr 1
          omega
        · rw [upd_ne hb, upd_ne hb, upd_ne hb]
    · obtain ⟨v2, rfl, rfl, hm⟩ := hP
      refine ⟨_, rfl, ?_⟩
      have e : ((n : Int) + 1 - 1).toNat = n := by omega
      rw [e]
      exact q l hl
end
end TC
namespace TC
set_option exponentiation.threshold 20000
open PySem PySem.Spec PyProof.Rows L2 TCX
theorem iteB {b : Bool} {A B : Prop} (h1 : b = true → A) (h2 : b = false → B) : if b = true then A else B := by
  cases b
  · exact iteF (h2 rfl)
  · exact iteT (h1 rfl)
theorem nat_bits {n : Nat} {A : Nat} (h : n < 2 ^ A) : (n : Int).natAbs < 2 ^ A := by
  rw [Int.natAbs_natCast]
  exact h
def muR : L2.St → Nat
  | [_, _, some (.int l), _, _, some (.int p)] => (2 * l - p).toNat
  | _ => 0
theorem RootI.bound {N left free square p : Nat} (h : RootI N left free square p) (h0 : 0 < N) : left ≤ N ∧ free ≤ N ∧ square ≤ N := by
  have e := h.eq
  have f0 := h.sf.pos
  have s0 := h.s0
  have l0 := h.l0
  refine ⟨Nat.le_of_dvd h0 ⟨free * (square * square), by rw [← e, Nat.mul_assoc]⟩, Nat.le_of_dvd h0 ⟨left * (square * square), ?_⟩, Nat.le_of_dvd h0 ⟨left * free * square, ?_⟩⟩
  · rw [← e]
    simp only [Nat.mul_assoc, Nat.mul_left_comm, Nat.mul_comm]
  · rw [← e]
    simp only [Nat.mul_assoc, Nat.mul_left_comm, Nat.mul_comm]
theorem mod_dvd {a b : Nat} : decide (V.int ((a : Int) % (b : Int)) = V.int 0) = decide (b ∣ a) := by
  by_cases h : b ∣ a
  · rw [decide_eq_true h]
    refine decide_eq_true ?_
    obtain ⟨k, rfl⟩ := h
    rw [Int.natCast_mul, Int.mul_emod_right]
  · rw [decide_eq_false h]
    refine decide_eq_false fun z => h ?_
    have z2 : (a : Int) % (b : Int) = 0 := V.int.inj z
    exact Int.natCast_dvd_natCast.mp (Int.dvd_of_emod_eq_zero z2)
section
variable {P : Program} {w : World} {K : PySem.W.Frag} {mg : Str → Option Value} {base : Heap} {f : Addr} {fd : FuncData}
/-! ### _law_rooted -/
def spRooted : Sp := fun vs H Q _ => ∃ up under : Nat, vs = [.int up, .int under] ∧ 0 < up ∧ 0 < under ∧ up < 2 ^ 3000 ∧ under < 2 ^ 3000 ∧
  ∀ (sq fr : Nat) (d T : Addr) H', H d = none → up * under = sq * sq * fr → SqF fr → 0 < sq → Same H H' → H' d = some (.dK [((Sum.inl (fr : Int) : Key), .ref T)]) → H' T = some (.tup [.int (TCM.lowL sq under).1, .int (TCM.lowL sq under).2]) → Q (.ref d) H'
abbrev nRooted : List Str := ["_law_up", "_law_under", "_law_left", "_law_free", "_law_square", "_law_p"]
theorem scRooted : FnScope nRooted ["_law_up", "_law_under"] (defScope sRooted) := ⟨rfl, rfl, rfl, by decide +kernel, rfl, by decide +kernel, by decide +kernel⟩
theorem ok_rooted {fL : Addr} {fdL : FuncData} (F : FnP K "_law_rooted" sRooted f fd) (GL : FnOk P w K mg base CX0 1 fL fdL ["_law_up", "_law_under"] spLowL) (bL : L2.Binds K fdL ["_law_up", "_law_under"] []) (kL : PySem.W.keepIn K (.ref fL) = true) (gL : mg "_law_low" = some (.ref fL)) : FnOk P w K mg base CX0 2 f fd ["_law_up", "_law_under"] spRooted := by
  refine F.ok scRooted (fun vs H Q E h => ?_) (fun cdv A outer s H vs Q E hr h => ?_)
  · obtain ⟨_, _, rfl, _⟩ := h
    rfl
  · obtain ⟨up, under, rfl, u0, d0, u1, d1, q⟩ := h
    refine ⟨_, PSs.nox (C8.pss_cut (ps_asg (pe_tup (pa_cons (pe_op op_mulW (pv 0) (pv 1)) (pa_cons pe_int (pa_cons pe_int (pa_cons pe_int pa_nil))))) (pg_tup rfl (pgs_cons (pg_name (i := 2) scRooted.nd rfl (.inl rfl)) (pgs_cons (pg_name (i := 3) scRooted.nd rfl (.inl rfl)) (pgs_cons (pg_name (i := 4) scRooted.nd rfl (.inl rfl)) (pgs_cons (pg_name (i := 5) scRooted.nd rfl (.inl rfl)) pgs_nil))))))
      (C8.pss_cut (ps_while PassesOwn.never (pt_cmpR op_gt (pv 2) pe_int (nomark _))
        (pss_one (ps_if (pt_cmpR op_eq (pe_op op_mod (pv 2) (pe_op op_mulW (pv 5) (pv 5))) pe_int (nomark _))
          (pss_one (ps_par (i := 2) (j := 4) (by rfl) scRooted.nd rfl rfl (by decide) rfl rfl (pa_cons (pe_op op_fdivW (pv 2) (pe_op op_mulW (pv 5) (pv 5))) (pa_cons (pe_op op_mulW (pv 4) (pv 5)) pa_nil)) (by rfl)))
          (pss_one (ps_if (pt_cmpR op_eq (pe_op op_mod (pv 2) (pv 5)) pe_int (nomark _))
            (pss_one (ps_par (i := 2) (j := 3) (by rfl) scRooted.nd rfl rfl (by decide) rfl rfl (pa_cons (pe_op op_fdivW (pv 2) (pv 5)) (pa_cons (pe_op op_mulW (pv 3) (pv 5)) pa_nil)) (by rfl)))
            (pss_one (ps_set (i := 5) scRooted.nd rfl (.inl rfl) (pe_op op_add (pv 5) pe_int))))))))
      (pss_one (ps_ret (pe_disp (pps_cons (pv 3) (pe_call GL hr (by rfl) gL kL bL .nil pass0 (pa_cons (pv 4) (pa_cons (pv 1) pa_nil))) pps_nil) (by rfl) (by rfl) (fun z => by cases z) (by decide)))))), ?_⟩
    have N1 : up * under < 2 ^ 6000 := by
      have z := Nat.mul_lt_mul'' u1 d1
      rw [← Nat.pow_add] at z
      exact z
    have N0 : 0 < up * under := Nat.mul_pos u0 d0
    refine ⟨fun σ H' => σ = [some (.int up), some (.int under), some (.int ((up * under : Nat) : Int)), some (.int 1), some (.int 1), some (.int 2)] ∧ Same H H', ?_, fun σ H1 hM => ?_⟩
    · refine ⟨_, rfl, _, rfl, up, under, rfl, rfl, cmulw (nat_bits u1) (nat_bits d1) (by decide) (by decide) (by decide), by show 4 ≤ sizeLine; decide, fun l hl => ?_⟩
      refine ⟨l, _, rfl, SqT.of upd_same, rfl, _, _, rfl, _, _, rfl, _, _, rfl, _, _, rfl, rfl, ?_, same_upd hl⟩
      show [some (V.int up), some (V.int under), some (V.int ((up : Int) * (under : Int))), some (V.int 1), some (V.int 1), some (V.int 2)] = _
      rw [Int.natCast_mul]
    obtain ⟨rfl, s1⟩ := hM
    refine ⟨fun σ H' => ∃ sq fr p : Nat, σ = [some (.int up), some (.int under), some (.int 1), some (.int fr), some (.int sq), some (.int p)] ∧ H' = H1 ∧ up * under = sq * sq * fr ∧ SqF fr ∧ 0 < sq, ?_, fun σ H2 hM => ?_⟩
    · refine while_by (fun σ H' => ∃ left fr sq p : Nat, σ = [some (.int up), some (.int under), some (.int left), some (.int fr), some (.int sq), some (.int p)] ∧ H' = H1 ∧ RootI (up * under) left fr sq p) (fun σ _ => muR σ) ⟨up * under, 1, 1, 2, rfl, rfl, RootI.start N0⟩ (fun σ H' hP => ?_) (fun σ H' Q Q' m h => by
        obtain ⟨x, hx, i, j, e1, e2, k, ek, hq⟩ := h
        exact ⟨x, hx, i, j, e1, e2, k, ek, m _ _ hq⟩)
      obtain ⟨left, fr, sq, p, rfl, rfl, hI⟩ := hP
      obtain ⟨bl, bf, bs⟩ := RootI.bound hI N0
      have p1 := hI.p1
      refine ⟨_, rfl, left, 1, rfl, rfl, _, rfl, iteB (fun y => ?_) fun y => ?_⟩
      rotate_left
      · have y' := of_decide_eq_false y
        have hl : ¬ 1 < left := by omega
        obtain ⟨e, hf, hs⟩ := hI.done hl
        have el : left = 1 := by have := hI.l0; omega
        exact ⟨sq, fr, p, by rw [el]; rfl, rfl, e, hf, hs⟩
      have hl : 1 < left := by
        have := of_decide_eq_true y
        omega
      have ple := hI.le hl
      have b1 : left < 2 ^ 6000 := Nat.lt_of_le_of_lt bl N1
      have b2 : p < 2 ^ 6000 := Nat.lt_of_le_of_lt ple b1
      have b3 : fr < 2 ^ 6000 := Nat.lt_of_le_of_lt bf N1
      have b4 : sq < 2 ^ 6000 := Nat.lt_of_le_of_lt bs N1
      have cm : ∀ {x y : Nat}, x < 2 ^ 6000 → y < 2 ^ 6000 → CMulW (x : Int) (y : Int) := fun h1 h2 => cmulw (nat_bits h1) (nat_bits h2) (by decide) (by decide) (by decide)
      have pp0 : (0 : Int) < (p : Int) * (p : Int) := Int.mul_pos (by omega) (by omega)
      refine ⟨_, rfl, _, rfl, _, rfl, p, p, rfl, rfl, cm b2 b2, left, _, rfl, rfl, pp0, rfl, _, rfl, ?_⟩
      have e1 : decide (V.int ((left : Int) % ((p : Int) * (p : Int))) = V.int 0) = decide (p * p ∣ left) := by
        rw [← Int.natCast_mul]
        exact mod_dvd
      show if decide (V.int ((left : Int) % ((p : Int) * (p : Int))) = V.int 0) = true then _ else _
      rw [e1]
      by_cases h1 : p * p ∣ left
      · refine iteD1 h1 ?_
        have hle : p * p ≤ left := Nat.le_of_dvd (by omega) h1
        have hdv : left / (p * p) < left := Nat.div_lt_self (by omega) (by have := Nat.mul_le_mul p1 (Nat.le_of_lt p1); omega)
        have cd : CDivW (left : Int) ((p : Int) * (p : Int)) := ⟨pp0, by
          rw [← Int.natCast_mul, Int.natAbs_natCast]
          exact Nat.lt_of_lt_of_le (PySem.Flt.log2_lt_of (show 0 < 6000 by decide) (Nat.lt_of_le_of_lt hle b1)) (by decide)⟩
        refine ⟨_, rfl, _, rfl, _, rfl, p, p, rfl, rfl, cm b2 b2, left, _, rfl, rfl, cd, _, rfl, _, rfl, sq, p, rfl, rfl, cm b4 b2, _, _, rfl, ⟨left / (p * p), fr, sq * p, p, ?_, rfl, hI.sq h1⟩, ?_⟩
        · show [some (V.int up), some (V.int under), some (V.int ((left : Int) / ((p : Int) * (p : Int)))), some (V.int fr), some (V.int ((sq : Int) * (p : Int))), some (V.int p)] = _
          rw [Int.natCast_ediv, Int.natCast_mul, Int.natCast_mul]
        · show (2 * ((left : Int) / ((p : Int) * (p : Int))) - (p : Int)).toNat < (2 * (left : Int) - (p : Int)).toNat
          rw [← Int.natCast_mul, ← Int.natCast_ediv]
          omega
      refine iteD0 h1 ?_
      refine ⟨_, rfl, _, rfl, left, p, rfl, rfl, (by show (0 : Int) < (p : Int); omega), rfl, _, rfl, ?_⟩
      show if decide (V.int ((left : Int) % (p : Int)) = V.int 0) = true then _ else _
      rw [mod_dvd]
      by_cases h2 : p ∣ left
      · refine iteD1 h2 ?_
        have hdv : left / p < left := Nat.div_lt_self (by omega) p1
        have cd : CDivW (left : Int) (p : Int) := ⟨by omega, by
          rw [Int.natAbs_natCast]
          exact Nat.lt_of_lt_of_le (PySem.Flt.log2_lt_of (show 0 < 6000 by decide) b2) (by decide)⟩
        refine ⟨_, rfl, _, rfl, left, p, rfl, rfl, cd, _, rfl, _, rfl, fr, p, rfl, rfl, cm b3 b2, _, _, rfl, ⟨left / p, fr * p, sq, p, ?_, rfl, hI.once h1 h2⟩, ?_⟩
        · show [some (V.int up), some (V.int under), some (V.int ((left : Int) / (p : Int))), some (V.int ((fr : Int) * (p : Int))), some (V.int sq), some (V.int p)] = _
          rw [Int.natCast_ediv, Int.natCast_mul]
        · show (2 * ((left : Int) / (p : Int)) - (p : Int)).toNat < (2 * (left : Int) - (p : Int)).toNat
          rw [← Int.natCast_ediv]
          omega
      · refine iteD0 h2 ?_
        refine ⟨_, rfl, p, 1, rfl, rfl, ⟨left, fr, sq, p + 1, rfl, rfl, hI.up h2⟩, ?_⟩
        show (2 * (left : Int) - ((p : Int) + 1)).toNat < (2 * (left : Int) - (p : Int)).toNat
        omega
    obtain ⟨sq, fr, p, rfl, rfl, e, hf, hs⟩ := hM
    intro d hd
    have t1 := same_upd (o := .dK []) hd
    have bu : (under : Int).natAbs < 2 ^ 3000 := nat_bits d1
    refine ⟨_, rfl, _, rfl, _, rfl, sq, under, 3000, rfl, by omega, bu, by decide, by decide, fun T hT => ?_⟩
    have t2 := same_upd (o := .tup [.int (TCM.lowL sq under).1, .int (TCM.lowL sq under).2]) hT
    have hdT : d ≠ T := fun z => by
      rw [← z, upd_same] at hT
      cases hT
    refine ⟨t2 _ _ upd_same, [((Sum.inl (fr : Int) : Key), .ref T)], rfl, by show 1 ≤ 15; decide, ?_⟩
    refine q sq fr d T _ (s1.free hd) e hf hs (s1.trans fun b o z => ?_) (by rw [upd_same]; rfl) (by rw [upd_ne hdT.symm, upd_same])
    rw [upd_ne (ne_of_none z hd)]
    exact t2 _ _ (t1 _ _ z)
end
end TC
/-! the sum of two joined: by whole terms over one bottom. -/
namespace TCX
theorem fact_pos : ∀ n, 0 < factN n
  | 0 => Nat.one_pos
  | n + 1 => Nat.mul_pos (Nat.succ_pos n) (fact_pos n)
theorem fact_dvdS : ∀ s m n, m + n = s → factN m * factN n ∣ factN (m + n) := by
  intro s
  induction s with
  | zero =>
    intro m n h
    obtain ⟨rfl, rfl⟩ : m = 0 ∧ n = 0 := by omega
    exact Nat.dvd_refl _
  | succ s ih =>
    intro m n h
    match m, n with
    | 0, n =>
      rw [show factN 0 = 1 from rfl, Nat.one_mul, Nat.zero_add]
      exact Nat.dvd_refl _
    | m + 1, 0 =>
      rw [show factN 0 = 1 from rfl, Nat.mul_one, Nat.add_zero]
      exact Nat.dvd_refl _
    | m + 1, n + 1 =>
      have h1 := ih m (n + 1) (by omega)
      have h2 := ih (m + 1) n (by omega)
      have e : factN (m + 1 + (n + 1)) = (m + 1) * factN (m + (n + 1)) + (n + 1) * factN (m + 1 + n) := by
        rw [show m + 1 + (n + 1) = (m + n + 1) + 1 by omega]
        show (m + n + 1 + 1) * factN (m + n + 1) = _
        rw [show m + (n + 1) = m + n + 1 by omega, show m + 1 + n = m + n + 1 by omega, ← Nat.add_mul]
        congr 1
        omega
      rw [e]
      refine Nat.dvd_add ?_ ?_
      · show (m + 1) * factN m * factN (n + 1) ∣ _
        rw [Nat.mul_assoc]
        exact Nat.mul_dvd_mul_left _ h1
      · have z : factN (m + 1) * factN (n + 1) = (n + 1) * (factN (m + 1) * factN n) := by
          show factN (m + 1) * ((n + 1) * factN n) = _
          simp only [Nat.mul_assoc, Nat.mul_left_comm, Nat.mul_comm]
        rw [z]
        exact Nat.mul_dvd_mul_left _ h2
theorem fact_dvd (m n : Nat) : factN m * factN n ∣ factN (m + n) := fact_dvdS _ m n rfl
def okK (A B C : Nat) (D E : Int) (k : Nat) : Bool := decide (k ≤ A ∧ k ≤ B ∧ k ≤ C ∧ 0 ≤ D + k ∧ 0 ≤ E + k)
def botK (A B C : Nat) (D E : Int) (k : Nat) : Nat := factN k * factN (A - k) * factN (B - k) * factN (C - k) * factN (D + k).toNat * factN (E + k).toNat
def comK (A B C : Nat) (D E : Int) : Nat := factN A * factN (B + D).toNat * factN (C + E).toNat
theorem botK_pos (A B C : Nat) (D E : Int) (k : Nat) : 0 < botK A B C D E k := by
  unfold botK
  exact Nat.mul_pos (Nat.mul_pos (Nat.mul_pos (Nat.mul_pos (Nat.mul_pos (fact_pos _) (fact_pos _)) (fact_pos _)) (fact_pos _)) (fact_pos _)) (fact_pos _)
theorem comK_pos (A B C : Nat) (D E : Int) : 0 < comK A B C D E := Nat.mul_pos (Nat.mul_pos (fact_pos _) (fact_pos _)) (fact_pos _)
theorem botK_dvd {A B C : Nat} {D E : Int} {k : Nat} (h : okK A B C D E k = true) : botK A B C D E k ∣ comK A B C D E := by
  obtain ⟨h1, h2, h3, h4, h5⟩ := of_decide_eq_true h
  have e : botK A B C D E k = (factN k * factN (A - k)) * (factN (B - k) * factN (D + k).toNat) * (factN (C - k) * factN (E + k).toNat) := by
    unfold botK
    simp only [Nat.mul_assoc, Nat.mul_left_comm, Nat.mul_comm]
  rw [e]
  unfold comK
  have a1 := fact_dvd k (A - k)
  have a2 := fact_dvd (B - k) (D + k).toNat
  have a3 := fact_dvd (C - k) (E + k).toNat
  rw [show k + (A - k) = A by omega] at a1
  rw [show B - k + (D + k).toNat = (B + D).toNat by omega] at a2
  rw [show C - k + (E + k).toNat = (C + E).toNat by omega] at a3
  exact Nat.mul_dvd_mul (Nat.mul_dvd_mul a1 a2) a3
def sgK (k : Nat) : Int := if k % 2 = 1 then -1 else 1
def tmK (A B C : Nat) (D E : Int) (k : Nat) : Int := if okK A B C D E k = true then sgK k * ((comK A B C D E / botK A B C D E k : Nat) : Int) else 0
def sumK (f : Nat → Int) (n : Nat) : Int := ((List.range n).map f).sum
theorem sumK_succ (f : Nat → Int) (n : Nat) : sumK f (n + 1) = sumK f n + f n := by
  unfold sumK
  rw [List.range_succ, List.map_append, List.sum_append]
  show _ + (f n + 0) = _
  omega
theorem sumK_add (f : Nat → Int) (a : Nat) : ∀ b, sumK f (a + b) = sumK f a + sumK (fun i => f (a + i)) b
  | 0 => by
    show sumK f a = sumK f a + 0
    omega
  | b + 1 => by
    rw [← Nat.add_assoc, sumK_succ, sumK_succ, sumK_add f a b]
    omega
theorem sumK_zero {f : Nat → Int} : ∀ {n : Nat}, (∀ i, i < n → f i = 0) → sumK f n = 0
  | 0, _ => rfl
  | n + 1, h => by
    rw [sumK_succ, sumK_zero fun i hi => h i (by omega), h n (by omega)]
    rfl
/-- the sum is that of those k that are let -/
theorem sumK_let {A B C : Nat} {D E lo hi : Int} (l0 : 0 ≤ lo) (h1 : ∀ k : Nat, okK A B C D E k = true ↔ lo ≤ k ∧ (k : Int) ≤ hi) (hA : hi ≤ A) :
    sumK (tmK A B C D E) (A + 1) = sumK (fun i => tmK A B C D E (lo.toNat + i)) (hi + 1 - lo).toNat := by
  have out : ∀ k : Nat, ¬ (lo ≤ k ∧ (k : Int) ≤ hi) → tmK A B C D E k = 0 := fun k hk => if_neg fun z => hk ((h1 k).mp z)
  by_cases h : lo ≤ hi
  · have e : A + 1 = lo.toNat + ((hi + 1 - lo).toNat + (A - hi.toNat)) := by omega
    rw [e, sumK_add, sumK_add, sumK_zero fun i hi' => out i (by omega), sumK_zero (n := A - hi.toNat) fun i hi' => out _ (by omega)]
    omega
  · rw [show (hi + 1 - lo).toNat = 0 by omega, sumK_zero fun i _ => out i (by omega)]
    rfl
/-- one term more, as fractions in lowest terms -/
theorem frac_step (q : Rat) (low sg : Int) (h : low ≠ 0) : Rat.divInt (q.num * low + (q.den : Int) * sg) ((q.den : Int) * low) = q + Rat.divInt sg low := by
  have d0 : (q.den : Int) ≠ 0 := by have := q.den_pos; omega
  have e := Rat.divInt_add_divInt q.num sg d0 h
  rw [Rat.num_divInt_den] at e
  rw [e, Int.mul_comm sg]
theorem frac_com {A B C : Nat} {D E : Int} {k : Nat} (h : okK A B C D E k = true) : Rat.divInt (sgK k) ((botK A B C D E k : Nat) : Int) = Rat.divInt (tmK A B C D E k) ((comK A B C D E : Nat) : Int) := by
  have b0 := botK_pos A B C D E k
  have c0 := comK_pos A B C D E
  rw [Rat.divInt_eq_divInt_iff (by omega) (by omega)]
  unfold tmK
  rw [if_pos h, Int.mul_assoc, ← Int.natCast_mul, Nat.div_mul_cancel (botK_dvd h)]
theorem divInt_sum (x y : Int) {c : Int} (h : c ≠ 0) : Rat.divInt x c + Rat.divInt y c = Rat.divInt (x + y) c := by
  rw [Rat.divInt_add_divInt _ _ h h, ← Int.add_mul, Rat.divInt_mul_right h]
/-- the law's sum, step by step -/
theorem total_step {A B C : Nat} {D E : Int} {k : Nat} (h : okK A B C D E k = true) {q : Rat} (hq : q = Rat.divInt (sumK (tmK A B C D E) k) ((comK A B C D E : Nat) : Int)) :
    Rat.divInt (q.num * ((botK A B C D E k : Nat) : Int) + (q.den : Int) * sgK k) ((q.den : Int) * ((botK A B C D E k : Nat) : Int)) = Rat.divInt (sumK (tmK A B C D E) (k + 1)) ((comK A B C D E : Nat) : Int) := by
  have b0 := botK_pos A B C D E k
  have c0 := comK_pos A B C D E
  rw [frac_step q _ _ (by omega), frac_com h]
  conv => lhs; rw [hq]
  rw [divInt_sum _ _ (by omega), sumK_succ]
theorem total_skip {A B C : Nat} {D E : Int} {k : Nat} (h : ¬ okK A B C D E k = true) : sumK (tmK A B C D E) (k + 1) = sumK (tmK A B C D E) k := by
  rw [sumK_succ]
  have : tmK A B C D E k = 0 := if_neg h
  omega
/-- the root by the primes and the root by trying, a square of a common one beside -/
theorem root_two {above below : List Nat} (ha : ∀ n ∈ above, n < 123) (hb : ∀ n ∈ below, n < 123) {up under free square com : Nat} (hu : 0 < under) (hc : 0 < com) (hq : up * prodF below = under * prodF above * (com * com)) (hN : up * under = square * square * free) (hf : SqF free) :
    rootE above below = free ∧ topE above below * under * com = square * botE above below := by
  have pb : 0 < prodF below := by
    rw [prodF_leg hb]
    exact powP_pos pr30_p
  have e := rootE_ok ha hb
  have key : (topE above below * under * com) * (topE above below * under * com) * rootE above below = (square * botE above below) * (square * botE above below) * free := by
    have z : (topE above below * under * com) * (topE above below * under * com) * rootE above below * prodF below = (square * botE above below) * (square * botE above below) * free * prodF below := by
      calc (topE above below * under * com) * (topE above below * under * com) * rootE above below * prodF below
          = under * under * (com * com) * (topE above below * topE above below * rootE above below * prodF below) := by simp only [Nat.mul_assoc, Nat.mul_left_comm, Nat.mul_comm]
        _ = under * under * (com * com) * (botE above below * botE above below * prodF above) := by rw [e]
        _ = (botE above below * botE above below * under) * (under * prodF above * (com * com)) := by simp only [Nat.mul_assoc, Nat.mul_left_comm, Nat.mul_comm]
        _ = (botE above below * botE above below * under) * (up * prodF below) := by rw [hq]
        _ = (botE above below * botE above below) * (up * under) * prodF below := by simp only [Nat.mul_assoc, Nat.mul_left_comm, Nat.mul_comm]
        _ = (botE above below * botE above below) * (square * square * free) * prodF below := by rw [hN]
        _ = _ := by simp only [Nat.mul_assoc, Nat.mul_left_comm, Nat.mul_comm]
    exact Nat.eq_of_mul_eq_mul_right pb z
  obtain ⟨h1, h2⟩ := sq_uniq (Nat.mul_pos (Nat.mul_pos (topE_pos _ _) hu) hc) (rootE_sqF _ _) hf key
  exact ⟨h2, h1⟩
/-- both answers are one: top / bot times the whole sum, square / under times the sum's fraction -/
theorem both_one {top bot under square com : Nat} {W : Int} (hb : 0 < bot) (hu : 0 < under) (hc : 0 < com) (h : top * under * com = square * bot) :
    Rat.divInt W 1 * Rat.divInt (top : Int) (bot : Int) = Rat.divInt (square : Int) (under : Int) * Rat.divInt W (com : Int) := by
  rw [Rat.divInt_mul_divInt, Rat.divInt_mul_divInt, Rat.divInt_eq_divInt_iff (by omega) (by
    intro z
    rcases Int.mul_eq_zero.mp z with z | z <;> omega)]
  have h' : (top : Int) * under * com = square * bot := by
    have := congrArg (Nat.cast : Nat → Int) h
    push_cast at this
    exact this
  grind
end TCX
/-! xs[i] op= e: the reading of a list's item. -/
namespace TCX
open PySem PySem.Spec PyProof.Rows L2
def rGetL (K : PySem.W.Frag) : V → V → Hp → VK → Prop := fun o i H Q => ∃ (p : Addr) (xs : List V) (j : Nat) (v : V), o = .ref p ∧ i = .int (j : Nat) ∧ SqL K H p xs ∧ xs[j]? = some v ∧ Q v H
theorem get_list {X : Cx} : PGet X (rGetL X.K) := by
  intro pins s σ H o i ov iv Q I ro ri h
  obtain ⟨p, xs, j, z, rfl, rfl, hq, he, q⟩ := h
  cases ro
  obtain ⟨t, rfl⟩ := ri
  obtain ⟨its, r, pl, hz⟩ := I.list hq
  obtain ⟨w, ew, rw'⟩ := r.get he
  have hl := r.length
  have hn := line63
  have jl : j < xs.length := (List.getElem?_eq_some_iff.mp he).1
  exact wpAny_getItem_list pl.isList (by omega) (by omega) (by simpa using ew) ⟨z, H, I, rw', q⟩
end TCX
namespace TCX
open PySem PySem.Spec PyProof.Rows L2 HT
theorem same_new {H : Hp} {p : Addr} {o : HO} (h : H p = none) : Same H (upd H p o) := fun b x e => by
  rw [upd_ne (ne_of_none e h)]
  exact e
section
variable {X : Cx}
/-- t + u, whatever they hold: some tuple of both -/
def rCatS : R2 := fun x y H Q => ∃ a b xs ys, x = .ref a ∧ y = .ref b ∧ H a = some (.tup xs) ∧ H b = some (.tup ys) ∧ xs.length + ys.length ≤ sizeLine ∧ ∀ p H', Same H H' → H' p = some (.tup (xs ++ ys)) → Q (.ref p) H'
theorem op_catS : OpR X (binaryOp .Add) (rCatS) := by
  intro pins s σ H x y v u Q I rx ry h
  obtain ⟨a, b, xs, ys, rfl, rfl, ha, hb, hz, q⟩ := h
  refine op_catA pins s σ H _ _ v u Q I rx ry ⟨a, b, xs, ys, rfl, rfl, SqT.of ha, SqT.of hb, hz, fun e => ?_, fun _ e => ?_, fun _ _ p hp => ?_⟩
  · subst e
    exact q b H (fun _ _ z => z) hb
  · subst e
    exact q a H (fun _ _ z => z) (by rw [List.append_nil]; exact ha)
  · exact q p _ (same_new hp) upd_same
/-- t[lo:hi], whatever it is: some tuple of the part -/
def rSlS : V → Option Int → Option Int → Hp → VK → Prop := fun x lo hi H Q => ∃ a xs, x = .ref a ∧ H a = some (.tup xs) ∧ ∀ p H', Same H H' → H' p = some (.tup (cutV xs lo hi)) → Q (.ref p) H'
theorem sl_tupS : SlR X (rSlS) := by
  intro pins s σ H x v vl vu lo hi sl Q I rx hs pl pu h
  obtain ⟨a, xs, rfl, hx, q⟩ := h
  refine sl_tupA pins s σ H _ v vl vu lo hi sl Q I rx hs pl pu ⟨a, xs, rfl, SqT.of hx, fun e => ?_, fun _ p hp => ?_⟩
  · refine q a H (fun _ _ z => z) ?_
    unfold cutV
    rw [e.1, e.2]
    simpa using hx
  · exact q p _ (same_new hp) upd_same
end
theorem cut_take {xs : List V} {k : Nat} : cutV xs none (some (k : Int)) = xs.take k := by
  unfold cutV
  rw [sIx_nat, sIx_none]
  show xs.take (min k xs.length) = xs.take k
  by_cases h : k ≤ xs.length
  · rw [Nat.min_eq_left h]
  · rw [Nat.min_eq_right (by omega), List.take_length, List.take_of_length_le (by omega)]
theorem cut_drop {xs : List V} {k : Nat} : cutV xs (some (k : Int)) none = xs.drop k := by
  unfold cutV
  rw [sIx_nat, sIx_none]
  by_cases h : k ≤ xs.length
  · rw [Nat.min_eq_left h, List.take_of_length_le (by rw [List.length_drop]; omega)]
  · rw [Nat.min_eq_right (by omega), List.drop_length, List.drop_of_length_le (by omega)]
    exact List.take_nil
end TCX
/-! slices of a list with a step. -/
namespace TCX
open PySem PySem.Spec PyProof.Rows L2
theorem vals_at {xs : List V} {us : List Value} (h : Vals xs us) : ∀ i : Nat, (xs[i]? = none ∧ us[i]? = none) ∨ ∃ x u, xs[i]? = some x ∧ us[i]? = some u ∧ RelV x u := by
  induction h with
  | nil => exact fun i => .inl ⟨rfl, rfl⟩
  | cons r t ih =>
    intro i
    cases i with
    | zero => exact .inr ⟨_, _, rfl, rfl, r⟩
    | succ i => exact ih i
theorem vals_pick {xs : List V} {us : List Value} (h : Vals xs us) : ∀ is : List Nat, Vals (is.filterMap (xs[·]?)) (is.filterMap (us[·]?))
  | [] => .nil
  | i :: is => by
    rcases vals_at h i with ⟨e1, e2⟩ | ⟨x, u, e1, e2, r⟩
    · rw [List.filterMap_cons, List.filterMap_cons, e1, e2]
      exact vals_pick h is
    · rw [List.filterMap_cons, List.filterMap_cons, e1, e2]
      exact .cons r (vals_pick h is)
/-- the items of xs[lo:hi:st] -/
def stepV (xs : List V) (lo hi st : Option Int) : List V := (sliceRange (sliceBounds lo hi st xs.length).1 (sliceBounds lo hi st xs.length).2.1 (sliceBounds lo hi st xs.length).2.2).filterMap (xs[·]?)
section
variable {X : Cx} {e : Expr} {te : TE} {lo hi : Option Expr} {se : Expr} {tl th ts : TO} {pos p2 : Pos}
def tSl3 (K : PySem.W.Frag) (te : TE) (tl th ts : TO) : TE := fun σ H Q => te σ H fun x H1 => tl σ H1 fun l H2 => th σ H2 fun u H3 => ts σ H3 fun c H4 => ∃ a xs, x = .ref a ∧ SqL K H4 a xs ∧ c ≠ some 0 ∧ (stepV xs l u c).length ≤ sizeLine ∧ ∀ p, H4 p = none → Q (.ref p) (upd H4 p (.lst (stepV xs l u c)))
theorem pe_slice3 (he : PE X e te) (hl : PO X lo tl) (hu : PO X hi th) (hs : PO X (some se) ts) : PE X (.Subscript e (.Slice lo hi (some se) p2) pos) (tSl3 X.K te tl th ts) := by
  refine ⟨fun pins s σ H Q I h => ?_⟩
  refine Subscript_ (thn (he.run pins s σ H _ I h) fun v s1 ⟨x, H1, I1, r1, q1⟩ => ?_)
  refine wpAny_Slice (thn (hl.run pins s1 σ H1 _ I1 q1) fun vl s2 ⟨l, H2, I2, pl, q2⟩ => thn (hu.run pins s2 σ H2 _ I2 q2) fun vu s3 ⟨u, H3, I3, pu, q3⟩ => thn (hs.run pins s3 σ H3 _ I3 q3) fun vs s4 ⟨c, H4, I4, ps, q4⟩ => ?_)
  obtain ⟨a, xs, rfl, hx, hc, hz, q⟩ := q4
  have I5 : Inv X pins σ H4 { s4 with heap := s4.heap.push { cls := .type "slice", data := .fields #[vl, vu, vs] } } := I4.kept (t' := s4.toks) fun b ob q => Heap.get?_push_of_some _ q
  cases r1
  obtain ⟨its, r, ht, hz'⟩ := I5.list hx
  have hlen := r.length
  refine tail_any (ops := [.ref a, .ref s4.heap.objs.size]) (T := "list") ht.isList.typeIs slot_list_getitem.lookup ?_ (by with_unfolding_all rfl)
  refine wpAny_getItem_list_slice ht.isList (Heap.IsSliceOf.new ..) pl pu ps hc ?_ (by rw [List.size_toArray] <;> omega)
  have e : slicePick its.toArray l u c = ((sliceRange (sliceBounds l u c its.length).1 (sliceBounds l u c its.length).2.1 (sliceBounds l u c its.length).2.2).filterMap (its[·]?)).toArray := by
    unfold slicePick
    rw [List.size_toArray]
    simp only [List.getElem?_toArray]
  rw [e, ← hlen]
  refine ⟨.ref _, _, I5.laid (t' := s4.toks) (o := .lst (stepV xs l u c)) (fun b ob q => Heap.get?_push_of_some _ q) (Nat.le_refl _) ?_, rfl, q _ (I5.hok.fresh (Nat.le_refl _))⟩
  exact ⟨hz, _, 0, vals_pick r _, Heap.get?_push_size _ rfl⟩
end
end TCX
namespace TCX
open PySem PySem.Spec PyProof.Rows L2
theorem range_down (n : Nat) (hi : Nat) (h : hi ≤ n) : sliceRange ((n : Int) - 1) ((hi : Int) - 1) (-1) = (List.range (n - hi)).map fun k => n - 1 - k := by
  unfold sliceRange
  by_cases hn : hi < n
  · have e : ((n : Int) - 1 - ((hi : Int) - 1) - -1 - 1) / (- -1) = ((n - hi : Nat) : Int) := by
      rw [show (- -1 : Int) = 1 from rfl, Int.ediv_one]
      omega
    simp only [show ¬ ((-1 : Int) > 0) by decide, if_false, show ((n : Int) - 1 > (hi : Int) - 1) by omega, if_true, e, Int.toNat_natCast]
    refine List.map_congr_left fun k hk => ?_
    have := List.mem_range.mp hk
    omega
  · have e : n - hi = 0 := by omega
    simp only [show ¬ ((-1 : Int) > 0) by decide, if_false, show ¬ ((n : Int) - 1 > (hi : Int) - 1) by omega, e]
    rfl
theorem pick_down {α : Type} (xs : List α) : ∀ k : Nat, k ≤ xs.length → ((List.range k).map fun i => xs.length - 1 - i).filterMap (xs[·]?) = (xs.drop (xs.length - k)).reverse
  | 0, _ => by simp
  | k + 1, h => by
    rw [List.range_succ, List.map_append, List.filterMap_append, pick_down xs k (by omega)]
    have h1 : xs.length - 1 - k < xs.length := by omega
    have e : xs.length - (k + 1) = xs.length - 1 - k := by omega
    rw [e, List.drop_eq_getElem_cons h1, List.reverse_cons]
    have e2 : xs.length - 1 - k + 1 = xs.length - k := by omega
    rw [e2]
    congr 1
    simp [List.getElem?_eq_getElem h1]
/-- xs[::-1] -/
theorem step_rev (xs : List V) : stepV xs none none (some (-1)) = xs.reverse := by
  unfold stepV
  have e : sliceBounds none none (some (-1)) xs.length = ((xs.length : Int) - 1, ((0 : Nat) : Int) - 1, -1) := by
    unfold sliceBounds
    simp
  rw [e, range_down xs.length 0 (Nat.zero_le _), Nat.sub_zero, pick_down xs xs.length (Nat.le_refl _), Nat.sub_self]
  rfl
/-- xs[:0:-1] -/
theorem step_tail (xs : List V) : stepV xs none (some 0) (some (-1)) = (xs.drop 1).reverse := by
  unfold stepV
  cases xs with
  | nil => rfl
  | cons x xs =>
    have e : sliceBounds none (some 0) (some (-1)) (x :: xs).length = (((x :: xs).length : Int) - 1, ((1 : Nat) : Int) - 1, -1) := by
      unfold sliceBounds
      simp
      omega
    rw [e, range_down (x :: xs).length 1 (by simp), pick_down (x :: xs) _ (by omega)]
    have e2 : (x :: xs).length - ((x :: xs).length - 1) = 1 := by simp
    rw [e2]
end TCX
/-! xs[s::s] of a list told by a function. -/
namespace TCX
open PySem PySem.Spec PyProof.Rows L2
theorem fm_all {α β : Type} {g : α → Option β} {f : α → β} : ∀ {l : List α}, (∀ x ∈ l, g x = some (f x)) → l.filterMap g = l.map f
  | [], _ => rfl
  | x :: l, h => by
    rw [List.filterMap_cons, h x (by simp), List.map_cons, fm_all fun y hy => h y (List.mem_cons_of_mem _ hy)]
theorem step_up (f : Nat → Int) (h s : Nat) (s0 : 0 < s) (hs : s ≤ h) : stepV ((List.range (h + 1)).map fun m => V.int (f m)) (some (s : Int)) none (some (s : Int)) = ((List.range (h / s)).map fun j => f ((j + 1) * s)).map V.int := by
  unfold stepV
  rw [List.length_map, List.length_range]
  have e : sliceBounds (some (s : Int)) none (some (s : Int)) (h + 1) = ((s : Int), ((h + 1 : Nat) : Int), (s : Int)) := by
    unfold sliceBounds
    have h1 : (0 : Int) < (s : Int) := by omega
    have h2 : ¬ ((s : Int) < 0) := by omega
    have h3 : ¬ (((h + 1 : Nat) : Int) < (s : Int)) := by omega
    simp [h1, h2, h3]
    omega
  rw [e]
  have er : sliceRange (s : Int) ((h + 1 : Nat) : Int) (s : Int) = (List.range (h / s)).map fun k => (k + 1) * s := by
    unfold sliceRange
    have h1 : (s : Int) > 0 := by omega
    have h2 : (s : Int) < ((h + 1 : Nat) : Int) := by omega
    have e1 : (((h + 1 : Nat) : Int) - (s : Int) + (s : Int) - 1) / (s : Int) = ((h / s : Nat) : Int) := by
      rw [show ((h + 1 : Nat) : Int) - (s : Int) + (s : Int) - 1 = (h : Int) by omega]
      exact (Int.natCast_ediv h s).symm
    simp only [h1, if_true, h2, e1, Int.toNat_natCast]
    refine List.map_congr_left fun k _ => ?_
    have : (s : Int) + (s : Int) * (k : Int) = (((k + 1) * s : Nat) : Int) := by
      rw [Nat.add_mul, Nat.one_mul, Nat.mul_comm k s]
      push_cast
      omega
    rw [this, Int.toNat_natCast]
  rw [er, List.map_map]
  rw [List.filterMap_map]
  refine fm_all fun k hk => ?_
  have hk' := List.mem_range.mp hk
  have hb : (k + 1) * s ≤ h := by
    have := Nat.mul_le_mul_right s (show k + 1 ≤ h / s by omega)
    exact Nat.le_trans this (Nat.div_mul_le_self h s)
  show ((List.range (h + 1)).map fun m => V.int (f m))[(k + 1) * s]? = _
  rw [List.getElem?_map, List.getElem?_range (by omega)]
  rfl
end TCX
namespace TC
open PySem PySem.Spec PyProof.Rows L2 TCX
/-! ### a list told by a function -/
def natV (l : List Nat) : List V := l.map fun n : Nat => V.int (n : Int)
def lisF (h : Nat) (f : Nat → Int) : List V := (List.range (h + 1)).map fun m => V.int (f m)
theorem lisF_len (h : Nat) (f : Nat → Int) : (lisF h f).length = h + 1 := by rw [lisF, List.length_map, List.length_range]
theorem lisF_get {h : Nat} {f : Nat → Int} {j : Nat} (hj : j ≤ h) : (lisF h f)[j]? = some (.int (f j)) := by
  rw [lisF, List.getElem?_map, List.getElem?_range (by omega)]
  rfl
theorem lisF_set {h : Nat} {f : Nat → Int} {j : Nat} {z : Int} : (lisF h f).set j (.int z) = lisF h fun m => if m = j then z else f m := by
  refine List.ext_getElem? fun i => ?_
  rw [List.getElem?_set]
  by_cases e : j = i
  · subst e
    rw [if_pos rfl, lisF_len]
    by_cases hj : j < h + 1
    · rw [if_pos hj, lisF_get (by omega), if_pos rfl]
    · rw [if_neg hj, List.getElem?_eq_none (by rw [lisF_len]; omega)]
  · rw [if_neg e]
    by_cases hi : i ≤ h
    · rw [lisF_get hi, lisF_get hi, if_neg fun z => e z.symm]
    · rw [List.getElem?_eq_none (by rw [lisF_len]; omega), List.getElem?_eq_none (by rw [lisF_len]; omega)]
theorem lisF_rep (h : Nat) : (List.replicate (h + 1) ([V.int 0] : List V)).flatten = lisF h fun _ => 0 := by
  unfold lisF
  rw [List.map_const', List.length_range]
  induction h + 1 with
  | zero => rfl
  | succ n ih =>
    rw [List.replicate_succ, List.flatten_cons, ih, List.replicate_succ]
    rfl
theorem lisF_congr {h : Nat} {f g : Nat → Int} (e : ∀ m, m ≤ h → f m = g m) : lisF h f = lisF h g := by
  unfold lisF
  refine List.map_congr_left fun m hm => ?_
  rw [e m (by have := List.mem_range.mp hm; omega)]
theorem eqL_snoc (l : List Nat) (n m : Nat) : eqL (l ++ [n]) m = eqL l m + (if n = m then 1 else 0) := by
  induction l with
  | nil =>
    show (if n = m then (1 : Int) else 0) + 0 = 0 + _
    omega
  | cons a l ih =>
    show (if a = m then (1 : Int) else 0) + eqL (l ++ [n]) m = (if a = m then (1 : Int) else 0) + eqL l m + _
    rw [ih]
    omega
theorem ixN_nat {n j : Nat} (h : j < n) : ixN n (j : Int) = some j := by
  unfold ixN
  simp
  omega
theorem sum_sub (f g : Nat → Int) : ∀ l : List Nat, (l.map fun j => f j - g j).sum = (l.map f).sum - (l.map g).sum
  | [] => rfl
  | x :: l => by
    rw [List.map_cons, List.sum_cons, List.map_cons, List.sum_cons, List.map_cons, List.sum_cons, sum_sub f g l]
    omega
theorem at_sum {above below : List Nat} {h s : Nat} (s0 : 0 < s) (ha : ∀ n ∈ above, n ≤ h) (hb : ∀ n ∈ below, n ≤ h) : ((List.range (h / s)).map fun j => geL above ((j + 1) * s) - geL below ((j + 1) * s)).sum = atS above below s := by
  rw [sum_sub (fun j => geL above ((j + 1) * s)) (fun j => geL below ((j + 1) * s)), mult_sum s0 ha, mult_sum s0 hb]
  rfl
theorem legN_zero {n p : Nat} (h : n < p) : legN n p = 0 := by
  have z : ∀ q, p ≤ q → n / q = 0 := fun q hq => Nat.div_eq_of_lt (by omega)
  have p1 : 1 ≤ p := by omega
  have m1 : p ≤ p * p := Nat.le_mul_of_pos_right p p1
  have m2 : p ≤ p * p * p := Nat.le_trans m1 (Nat.le_mul_of_pos_right _ p1)
  have m3 : p ≤ p * p * p * p := Nat.le_trans m2 (Nat.le_mul_of_pos_right _ p1)
  have m4 : p ≤ p * p * p * p * p := Nat.le_trans m3 (Nat.le_mul_of_pos_right _ p1)
  have m5 : p ≤ p * p * p * p * p * p := Nat.le_trans m4 (Nat.le_mul_of_pos_right _ p1)
  unfold legN
  rw [z _ (Nat.le_refl p), z _ m1, z _ m2, z _ m3, z _ m4, z _ m5]
theorem sumL_zero {l : List Nat} {p : Nat} (h : ∀ n ∈ l, n < p) : sumL l p = 0 := by
  induction l with
  | nil => rfl
  | cons n l ih =>
    show legN n p + sumL l p = 0
    rw [legN_zero (h n (by simp)), ih fun m hm => h m (List.mem_cons_of_mem _ hm)]
theorem expE_zero {above below : List Nat} {p : Nat} (ha : ∀ n ∈ above, n < p) (hb : ∀ n ∈ below, n < p) : expE above below p = 0 := by
  unfold expE
  rw [sumL_zero ha, sumL_zero hb]
  rfl
theorem pr_at : ∀ i, i < 30 → primes[i]? = (pr30[i]?).map (Nat.cast : Nat → Int) := by decide +kernel
theorem pr_far : ∀ x ∈ primes.drop 30, 122 < x := by decide +kernel
theorem pr_up : ∀ i, i < 30 → ∀ q ∈ pr30.drop i, pr30.getD i 0 ≤ q := by decide +kernel
theorem pr_len : pr30.length = 30 ∧ primes.length = 168 := by decide +kernel
/-- pairs of a prime and its power -/
def PwR (H : Hp) (e : Nat → Int) : List Addr → List Nat → Prop
  | [], [] => True
  | u :: us, p :: ps => H u = some (.tup [.int (p : Int), .int (e p)]) ∧ PwR H e us ps
  | _, _ => False
theorem PwR.same {H H' : Hp} {e : Nat → Int} (s : Same H H') : ∀ {us : List Addr} {ps : List Nat}, PwR H e us ps → PwR H' e us ps
  | [], [], _ => trivial
  | _ :: _, _ :: _, h => ⟨s _ _ h.1, PwR.same s h.2⟩
  | [], _ :: _, h => h.elim
  | _ :: _, [], h => h.elim
theorem PwR.len {H : Hp} {e : Nat → Int} : ∀ {us : List Addr} {ps : List Nat}, PwR H e us ps → us.length = ps.length
  | [], [], _ => rfl
  | _ :: _, _ :: _, h => congrArg Nat.succ (PwR.len h.2)
  | [], _ :: _, h => h.elim
  | _ :: _, [], h => h.elim
theorem PwR.upd {H : Hp} {e : Nat → Int} {l : Addr} {o : HO} (hl : ∀ x, H l ≠ some (.tup x)) : ∀ {us : List Addr} {ps : List Nat}, PwR H e us ps → PwR (L2.upd H l o) e us ps
  | [], [], _ => trivial
  | u :: us, p :: ps, h => ⟨by
    rw [upd_ne fun z => hl _ (by rw [← z]; exact h.1)]
    exact h.1, PwR.upd hl h.2⟩
  | [], _ :: _, h => h.elim
  | _ :: _, [], h => h.elim
theorem PwR.snoc {H : Hp} {e : Nat → Int} {u : Addr} {p : Nat} (hu : H u = some (.tup [.int (p : Int), .int (e p)])) : ∀ {us : List Addr} {ps : List Nat}, PwR H e us ps → PwR H e (us ++ [u]) (ps ++ [p])
  | [], [], _ => ⟨hu, trivial⟩
  | _ :: _, _ :: _, h => ⟨h.1, PwR.snoc hu h.2⟩
  | [], _ :: _, h => h.elim
  | _ :: _, [], h => h.elim
theorem PwR.get {H : Hp} {e : Nat → Int} : ∀ {us : List Addr} {ps : List Nat} {i : Nat} {v : V}, PwR H e us ps → (us.map V.ref)[i]? = some v → ∃ u p, v = .ref u ∧ ps[i]? = some p ∧ H u = some (.tup [.int (p : Int), .int (e p)])
  | [], [], i, v, _, z => by simp at z
  | u :: us, p :: ps, 0, v, h, z => ⟨u, p, (Option.some.inj z).symm, rfl, h.1⟩
  | u :: us, p :: ps, i + 1, v, h, z => by
    have z' : (us.map V.ref)[i]? = some v := z
    obtain ⟨u', p', a, b, c⟩ := PwR.get h.2 z'
    exact ⟨u', p', a, b, c⟩
  | [], _ :: _, _, _, h, _ => h.elim
  | _ :: _, [], _, _, h, _ => h.elim
theorem nat_at {l : List Nat} {i : Nat} {x : V} (h : (natV l)[i]? = some x) : ∃ n : Nat, l[i]? = some n ∧ x = .int (n : Int) := by
  unfold natV at h
  rw [List.getElem?_map] at h
  cases e : l[i]? with
  | none =>
    rw [e] at h
    cases h
  | some n =>
    rw [e] at h
    exact ⟨n, rfl, (Option.some.inj h).symm⟩
theorem natV_len (l : List Nat) : (natV l).length = l.length := List.length_map ..
theorem take_at {l : List Nat} {i n : Nat} (h : l[i]? = some n) : l.take (i + 1) = l.take i ++ [n] := by
  rw [List.take_add_one, h]
  rfl
def muP (h : Nat) : L2.St → Nat
  | [_, _, _, _, _, _, _, _, some (.int s)] => (h + 1 - s).toNat
  | _ => 0
section
variable {P : Program} {w : World} {K : PySem.W.Frag} {mg : Str → Option Value} {base : Heap} {f : Addr} {fd : FuncData}
/-! ### primes_of_factorials -/
def spPrimesF (K : PySem.W.Frag) : Sp := fun vs H Q _ => ∃ (a b : Addr) (above below : List Nat), vs = [.ref a, .ref b] ∧ H a = some (.lst (natV above)) ∧ H b = some (.lst (natV below)) ∧ 0 < above.length ∧ above.length ≤ 50 ∧ below.length ≤ 50 ∧ (∀ n ∈ above, n < 123) ∧ (∀ n ∈ below, n < 123) ∧
  ∀ (l : Addr) (us : List Addr) (i : Nat) H', Same H H' → H' l = some (.lst (us.map V.ref)) → PwR H' (expE above below) us (pr30.take i) → i ≤ 30 → (∀ p ∈ pr30.drop i, expE above below p = 0) → Q (.ref l) H'
abbrev nPrimesF : List Str := ["above", "below", "high", "counts", "number", "found", "prime", "power", "step"]
theorem scPrimesF : FnScope nPrimesF ["above", "below"] (defScope sPrimesF) := ⟨rfl, rfl, rfl, by decide +kernel, rfl, by decide +kernel, by decide +kernel⟩
theorem ok_primesF {aP : Addr} (F : FnP K "primes_of_factorials" sPrimesF f fd) (gP : mg "PRIMES" = some (.ref aP)) (kP : ∀ H : Hp, SqT K H aP (primes.map V.int)) (gmax : mg "max" = none) (grange : mg "range" = none) (grev : mg "reversed" = none) (gsum : mg "sum" = none) :
    FnOk P w K mg base CX0 1 f fd ["above", "below"] (spPrimesF K) := by
  refine F.ok scPrimesF (fun vs H Q E h => ?_) (fun cdv A outer s H vs Q E hr h => ?_)
  · obtain ⟨_, _, _, _, rfl, _⟩ := h
    rfl
  obtain ⟨a, b, above, below, rfl, hA, hB, la0, la, lb, ha, hb, q⟩ := h
  refine ⟨_, PSs.nox (C8.pss_cut (ps_set (i := 2) scPrimesF.nd rfl (.inl rfl) (pe_callB (cr_max rfl) (by rfl) gmax (by decide +kernel) (pa_cons (pe_lst (StX.pa_star (pv 0) (StX.pa_star (pv 1) pa_nil))) pa_nil)))
    (C8.pss_cut (ps_set (i := 3) scPrimesF.nd rfl (.inl rfl) (pe_op op_rep (pe_lst (pa_cons pe_int pa_nil)) (pe_op op_add (pv 2) pe_int)))
    (C8.pss_cut (ps_for PassesOwn.never rfl (pi_list (pv 0)) (pg_name (i := 4) scPrimesF.nd rfl (.inl rfl)) (pss_one (ps_augS (pv 3) (pv 4) get_list pe_int ip_add set_list)))
    (C8.pss_cut (ps_for PassesOwn.never rfl (pi_list (pv 1)) (pg_name (i := 4) scPrimesF.nd rfl (.inl rfl)) (pss_one (ps_augS (pv 3) (pv 4) get_list pe_int ip_sub set_list)))
    (C8.pss_cut (ps_for PassesOwn.never rfl (pi_revR (by rfl) grev (prg_1 (by rfl) grange (pv 2))) (pg_name (i := 4) scPrimesF.nd rfl (.inl rfl)) (pss_one (ps_augS (pv 3) (pv 4) get_list (pe_ix ix_list (pv 3) (pe_op op_add (pv 4) pe_int) (fun _ _ => rfl)) ip_add set_list)))
    (pss_cons (ps_set (i := 5) scPrimesF.nd rfl (.inl rfl) (pe_lst pa_nil))
    (C8.pss_cut (ps_for PassesOwn.never rfl (pi_tup (pe_glob (v := .ref aP) (by rfl) gP rfl)) (pg_name (i := 6) scPrimesF.nd rfl (.inl rfl))
      (pss_cons (ps_if (pt_cmpR op_gt (pv 6) (pv 2) (nomark _)) (pss_one ps_break) pss_nil)
      (pss_cons (ps_par (i := 7) (j := 8) (by rfl) scPrimesF.nd rfl rfl (by decide) rfl rfl (pa_cons pe_int (pa_cons (pv 6) pa_nil)) (by rfl))
      (C8.pss_cut (ps_while PassesOwn.never (pt_cmpR op_le (pv 8) (pv 2) (nomark _))
        (pss_cons (ps_aug (i := 7) scPrimesF.nd rfl (.inl rfl) (pe_callB (cr_sum rfl) (by rfl) gsum (by decide +kernel) (pa_cons (pe_slice3 (pv 3) (po_some (pv 8)) po_none (po_some (pv 8))) pa_nil)) ip_add)
        (pss_one (ps_aug (i := 8) scPrimesF.nd rfl (.inl rfl) (pv 6) iop_mul))))
      (pss_one (ps_expr (pe_bm PySem.F.plainAttrs_list PySem.F.slot_list_append PySem.F.type_list_append mt_append (pv 5) (pa_cons (pe_tup (pa_cons (pv 6) (pa_cons (pv 7) pa_nil))) pa_nil))))))))
    (pss_one (ps_ret (pv 5)))))))))), ?_⟩
  -- high
  refine ⟨fun σ H' => ∃ h : Nat, σ = [some (.ref a), some (.ref b), some (.int (h : Int)), none, none, none, none, none, none] ∧ Same H H' ∧ h < 123 ∧ (∀ n ∈ above, n ≤ h) ∧ (∀ n ∈ below, n ≤ h), ?_, fun σ H1 hM => ?_⟩
  · refine ⟨_, rfl, a, _, rfl, .inr (SqL.of hA), _, rfl, b, _, rfl, .inr (SqL.of hB), ?_, fun l hl => ?_⟩
    · rw [List.append_nil, List.length_append, natV_len, natV_len, sizeLine_eq]
      omega
    · have eL : natV above ++ (natV below ++ []) = ((above ++ below).map (Nat.cast : Nat → Int)).map V.int := by
        rw [List.append_nil, List.map_append, List.map_append, List.map_map, List.map_map]
        rfl
      rw [eL]
      refine ⟨l, (above ++ below).map (Nat.cast : Nat → Int), rfl, SqL.of upd_same, ?_, fun m hm hmax => ?_⟩
      · rw [List.length_map, List.length_append]
        omega
      · obtain ⟨h, hh, rfl⟩ := List.mem_map.mp hm
        have hle : ∀ n, n ∈ above ++ below → n ≤ h := fun n hn => by
          have := hmax (n : Int) (List.mem_map.mpr ⟨n, hn, rfl⟩)
          omega
        refine ⟨h, rfl, same_upd hl, ?_, fun n hn => hle n (List.mem_append_left _ hn), fun n hn => hle n (List.mem_append_right _ hn)⟩
        rcases List.mem_append.mp hh with z | z
        · exact ha h z
        · exact hb h z
  obtain ⟨h, rfl, s1, h1, hav, hbv⟩ := hM
  have hA1 := s1 _ _ hA
  have hB1 := s1 _ _ hB
  -- counts
  refine ⟨fun σ H' => ∃ c : Addr, σ = [some (.ref a), some (.ref b), some (.int (h : Int)), some (.ref c), none, none, none, none, none] ∧ H1 c = none ∧ Same H1 H' ∧ H' c = some (.lst (lisF h fun _ => 0)), ?_, fun σ H2 hM => ?_⟩
  · refine ⟨by show 1 ≤ sizeLine; decide, fun l hl => ?_⟩
    have s2 := same_upd (o := .lst [V.int 0]) hl
    refine ⟨_, rfl, h, 1, rfl, rfl, l, _, _, rfl, rfl, upd_same, by omega, by omega, ?_, fun c hc => ?_⟩
    · show 1 * ((h : Int) + 1).toNat ≤ _
      rw [sizeLine_eq]
      omega
    · have e : ((h : Int) + 1).toNat = h + 1 := by omega
      rw [e, lisF_rep]
      exact ⟨c, rfl, s2.free hc, s2.trans (same_upd hc), upd_same⟩
  obtain ⟨c, rfl, hc1, s2, hc2⟩ := hM
  have keep : ∀ {G : Hp} {o : HO}, Same H1 G → Same H1 (upd G c o) := fun {G o} sg x y e => by
    rw [upd_ne (ne_of_none e hc1)]
    exact sg _ _ e
  have nA : ∀ {G : Hp}, Same H1 G → SqL K G a (natV above) := fun sg => SqL.of (sg _ _ hA1)
  have nB : ∀ {G : Hp}, Same H1 G → SqL K G b (natV below) := fun sg => SqL.of (sg _ _ hB1)
  -- one more for each above
  refine ⟨fun σ H' => ∃ v4 : Option V, σ = [some (.ref a), some (.ref b), some (.int (h : Int)), some (.ref c), v4, none, none, none, none] ∧ Same H1 H' ∧ H' c = some (.lst (lisF h (eqL above))), ?_, fun σ H3 hM => ?_⟩
  · refine ⟨_, rfl, a, rfl, ⟨_, nA s2⟩, for_list (xs := natV above) (fun i σ H' => ∃ v4 : Option V, σ = [some (.ref a), some (.ref b), some (.int (h : Int)), some (.ref c), v4, none, none, none, none] ∧ Same H1 H' ∧ H' c = some (.lst (lisF h (eqL (above.take i))))) ⟨none, rfl, s2, hc2⟩ (fun i σ H' _ hP => ?_) (fun i x σ H' hx hP => ?_) (fun σ H' hP => ?_)⟩
    · obtain ⟨_, _, sg, _⟩ := hP
      exact nA sg
    · obtain ⟨v4, rfl, sg, hcc⟩ := hP
      obtain ⟨n, hn, rfl⟩ := nat_at hx
      have nh : n ≤ h := hav n (List.mem_of_getElem? hn)
      refine ⟨_, rfl, _, rfl, c, _, n, _, rfl, rfl, SqL.of hcc, lisF_get nh, _, 1, rfl, rfl, c, _, n, n, rfl, rfl, hcc, ?_, _, rfl, keep sg, ?_⟩
      · rw [lisF_len]
        exact ixN_nat (by omega)
      · rw [upd_same, lisF_set, take_at hn]
        refine congrArg (fun z => some (HO.lst z)) (lisF_congr fun m _ => ?_)
        rw [eqL_snoc]
        by_cases e : m = n
        · rw [if_pos e, if_pos e.symm, e]
        · rw [if_neg e, if_neg fun z => e z.symm]
          omega
    · obtain ⟨v4, rfl, sg, hcc⟩ := hP
      rw [natV_len, List.take_length] at hcc
      exact ⟨v4, rfl, sg, hcc⟩
  obtain ⟨v4, rfl, s3, hc3⟩ := hM
  -- one less for each below
  refine ⟨fun σ H' => ∃ v4 : Option V, σ = [some (.ref a), some (.ref b), some (.int (h : Int)), some (.ref c), v4, none, none, none, none] ∧ Same H1 H' ∧ H' c = some (.lst (lisF h fun m => eqL above m - eqL below m)), ?_, fun σ H4 hM => ?_⟩
  · refine ⟨_, rfl, b, rfl, ⟨_, nB s3⟩, for_list (xs := natV below) (fun i σ H' => ∃ v4 : Option V, σ = [some (.ref a), some (.ref b), some (.int (h : Int)), some (.ref c), v4, none, none, none, none] ∧ Same H1 H' ∧ H' c = some (.lst (lisF h fun m => eqL above m - eqL (below.take i) m))) ⟨v4, rfl, s3, ?_⟩ (fun i σ H' _ hP => ?_) (fun i x σ H' hx hP => ?_) (fun σ H' hP => ?_)⟩
    · rw [hc3]
      refine congrArg (fun z => some (HO.lst z)) (lisF_congr fun m _ => ?_)
      show _ = eqL above m - 0
      omega
    · obtain ⟨_, _, sg, _⟩ := hP
      exact nB sg
    · obtain ⟨v4, rfl, sg, hcc⟩ := hP
      obtain ⟨n, hn, rfl⟩ := nat_at hx
      have nh : n ≤ h := hbv n (List.mem_of_getElem? hn)
      refine ⟨_, rfl, _, rfl, c, _, n, _, rfl, rfl, SqL.of hcc, lisF_get nh, _, 1, rfl, rfl, c, _, n, n, rfl, rfl, hcc, ?_, _, rfl, keep sg, ?_⟩
      · rw [lisF_len]
        exact ixN_nat (by omega)
      · rw [upd_same, lisF_set, take_at hn]
        refine congrArg (fun z => some (HO.lst z)) (lisF_congr fun m _ => ?_)
        rw [eqL_snoc]
        by_cases e : m = n
        · rw [if_pos e, if_pos e.symm, e]
          dsimp only
          omega
        · rw [if_neg e, if_neg fun z => e z.symm]
          omega
    · obtain ⟨v4, rfl, sg, hcc⟩ := hP
      rw [natV_len, List.take_length] at hcc
      exact ⟨v4, rfl, sg, hcc⟩
  clear v4
  obtain ⟨v4, rfl, s4, hc4⟩ := hM
  -- summed from the end
  refine ⟨fun σ H' => ∃ v4 : Option V, σ = [some (.ref a), some (.ref b), some (.int (h : Int)), some (.ref c), v4, none, none, none, none] ∧ Same H1 H' ∧ H' c = some (.lst (lisF h fun m => geL above m - geL below m)), ?_, fun σ H5 hM => ?_⟩
  · have top : ∀ l : List Nat, (∀ n ∈ l, n ≤ h) → geL l h = eqL l h := fun l hl => by
      rw [ge_step, ge_top hl (Nat.lt_succ_self h)]
      omega
    refine ⟨_, rfl, h, rfl, by omega, by omega, by omega, by omega, for_rangeC (fun i σ H' => ∃ v4 : Option V, σ = [some (.ref a), some (.ref b), some (.int (h : Int)), some (.ref c), v4, none, none, none, none] ∧ Same H1 H' ∧ H' c = some (.lst (lisF h fun m => if h - i ≤ m then geL above m - geL below m else eqL above m - eqL below m))) ⟨v4, rfl, s4, ?_⟩ (fun i σ H' hi hP => ?_) (fun σ H' hP => ?_)⟩
    · rw [hc4]
      refine congrArg (fun z => some (HO.lst z)) (lisF_congr fun m hm => ?_)
      by_cases e : h - 0 ≤ m
      · rw [if_pos e, show m = h by omega, top above hav, top below hbv]
      · rw [if_neg e]
    · obtain ⟨v4, rfl, sg, hcc⟩ := hP
      have hi' : i < h := by omega
      have ej : (0 : Int) + ((((h : Int) - 0).toNat : Nat) : Int) - 1 + (i : Nat) * (-1) = ((h - 1 - i : Nat) : Int) := by omega
      rw [ej]
      refine ⟨_, rfl, _, rfl, c, _, h - 1 - i, _, rfl, rfl, SqL.of hcc, lisF_get (by omega), _, rfl, _, rfl, _, 1, rfl, rfl, c, _, _, _, rfl, rfl, SqL.of hcc, at_of (j := h - i) (by omega) (lisF_get (by omega)), _, _, rfl, rfl, c, _, _, h - 1 - i, rfl, rfl, hcc, ?_, _, rfl, keep sg, ?_⟩
      · rw [lisF_len]
        exact ixN_nat (by omega)
      · rw [upd_same, lisF_set]
        refine congrArg (fun z => some (HO.lst z)) (lisF_congr fun m hm => ?_)
        by_cases e : m = h - 1 - i
        · rw [if_pos e, if_pos (show h - (i + 1) ≤ m by omega), if_neg (show ¬ h - i ≤ h - 1 - i by omega), if_pos (show h - i ≤ h - i by omega), ge_step above m, ge_step below m, e, show h - 1 - i + 1 = h - i by omega]
          dsimp only
          omega
        · rw [if_neg e]
          by_cases e2 : h - i ≤ m
          · rw [if_pos e2, if_pos (by omega)]
          · rw [if_neg e2, if_neg (by omega)]
    · obtain ⟨v4, rfl, sg, hcc⟩ := hP
      refine ⟨v4, rfl, sg, ?_⟩
      rw [hcc]
      refine congrArg (fun z => some (HO.lst z)) (lisF_congr fun m _ => ?_)
      rw [if_pos (by omega)]
  clear v4
  obtain ⟨v4, rfl, s5, hc5⟩ := hM
  refine ⟨by show 0 ≤ sizeLine; decide, fun l hl => ?_⟩
  have s6 := same_upd (o := .lst []) hl
  have cl : c ≠ l := ne_of_none hc5 hl
  have lH1 : H1 l = none := s5.free hl
  -- the primes
  refine ⟨fun σ H' => ∃ (v4 v6 v7 v8 : Option V) (us : List Addr) (i : Nat), σ = [some (.ref a), some (.ref b), some (.int (h : Int)), some (.ref c), v4, some (.ref l), v6, v7, v8] ∧ Same H1 H' ∧ H' l = some (.lst (us.map V.ref)) ∧ PwR H' (expE above below) us (pr30.take i) ∧ i ≤ 30 ∧ ∀ p ∈ pr30.drop i, expE above below p = 0, ?_, fun σ H7 hM => ?_⟩
  · refine ⟨aP, rfl, ⟨_, kP _⟩, for_tup (xs := primes.map V.int) (fun i σ H' => ∃ (v6 v7 v8 : Option V) (us : List Addr), σ = [some (.ref a), some (.ref b), some (.int (h : Int)), some (.ref c), v4, some (.ref l), v6, v7, v8] ∧ Same H1 H' ∧ H' l = some (.lst (us.map V.ref)) ∧ H' c = some (.lst (lisF h fun m => geL above m - geL below m)) ∧ PwR H' (expE above below) us (pr30.take i) ∧ i ≤ 30)
      ⟨none, none, none, [], rfl, s5.trans s6, upd_same, s6 _ _ hc5, trivial, by omega⟩ (fun i σ H' _ hP => kP _) (fun i x σ H' hx hP => ?_) (fun σ H' hP => ?_)⟩
    rotate_left
    · obtain ⟨_, _, _, _, _, _, _, _, _, z⟩ := hP
      rw [List.length_map, pr_len.2] at z
      omega
    obtain ⟨v6, v7, v8, us, rfl, sg, hll, hcc, hR, hi⟩ := hP
    rw [List.getElem?_map] at hx
    obtain ⟨x, hx', rfl⟩ : ∃ y, primes[i]? = some y ∧ x = V.int y := by
      cases e : primes[i]? with
      | none =>
        rw [e] at hx
        cases hx
      | some y =>
        rw [e] at hx
        exact ⟨y, rfl, (Option.some.inj hx).symm⟩
    refine ⟨_, rfl, _, rfl, x, h, rfl, rfl, _, rfl, ?_⟩
    by_cases hi3 : i = 30
    · have hf : 122 < x := pr_far x (by
        rw [List.mem_iff_getElem?]
        exact ⟨0, by rw [List.getElem?_drop, ← hx', hi3]⟩)
      refine iteD1 (show x > (h : Int) by omega) ?_
      exact ⟨v4, _, _, _, us, i, rfl, sg, hll, hR, hi, fun p hp => by
        rw [hi3, List.drop_eq_nil_of_le (by rw [pr_len.1]; omega)] at hp
        cases hp⟩
    have hi2 : i < 30 := by omega
    rw [pr_at i hi2] at hx'
    obtain ⟨p, hp, rfl⟩ : ∃ p, pr30[i]? = some p ∧ x = (p : Int) := by
      cases e : pr30[i]? with
      | none =>
        rw [e] at hx'
        cases hx'
      | some y =>
        rw [e] at hx'
        exact ⟨y, rfl, (Option.some.inj hx').symm⟩
    have pmem : p ∈ pr30 := List.mem_of_getElem? hp
    have p1 := (pr30_p p pmem).1
    have pd : pr30.getD i 0 = p := by
      rw [List.getD_eq_getElem?_getD, hp]
      rfl
    by_cases hph : (p : Int) > (h : Int)
    · refine iteD1 hph ?_
      refine ⟨v4, _, _, _, us, i, rfl, sg, hll, hR, hi, fun r hr' => ?_⟩
      have := pr_up i hi2 r hr'
      rw [pd] at this
      exact expE_zero (fun n hn => by have := hav n hn; omega) fun n hn => by have := hbv n hn; omega
    refine iteD0 hph ?_
    refine ⟨_, rfl, _, _, rfl, ?_⟩
    refine ⟨fun σ H'' => ∃ v8 : Option V, σ = [some (.ref a), some (.ref b), some (.int (h : Int)), some (.ref c), v4, some (.ref l), some (.int (p : Int)), some (.int (expE above below p)), v8] ∧ H'' l = some (.lst (us.map V.ref)) ∧ Same H' H'', ?_, fun σ H8 hM => ?_⟩
    · refine while_by (fun σ H'' => ∃ k : Nat, σ = [some (.ref a), some (.ref b), some (.int (h : Int)), some (.ref c), v4, some (.ref l), some (.int (p : Int)), some (.int (runE above below p k)), some (.int ((p ^ (k + 1) : Nat) : Int))] ∧ Same H' H'' ∧ p ^ k ≤ h) (fun σ _ => muP h σ) ⟨0, ?_, fun _ _ e => e, by show 1 ≤ h; omega⟩ (fun σ H'' hP => ?_) (fun σ H Q Q' m h => by
        obtain ⟨x, hx, y, hy, i, j, e1, e2, k, ek, hq⟩ := h
        exact ⟨x, hx, y, hy, i, j, e1, e2, k, ek, m _ _ hq⟩)
      · rw [Nat.zero_add, Nat.pow_one]
        rfl
      obtain ⟨k, rfl, sw, pk⟩ := hP
      refine ⟨_, rfl, _, rfl, _, _, rfl, rfl, _, rfl, iteB (fun y => ?_) fun y => ?_⟩
      rotate_left
      · have y' := of_decide_eq_false y
        have k6 : k ≤ 6 := Nat.le_of_not_lt fun z => by
          have z1 : 2 ^ 7 ≤ p ^ k := Nat.le_trans (Nat.pow_le_pow_left p1 7) (Nat.pow_le_pow_right (by omega) z)
          omega
        refine ⟨some (.int ((p ^ (k + 1) : Nat) : Int)), ?_, sw _ _ hll, sw⟩
        rw [runE_end p1 hav hbv (by omega) k6]
      · have y' := of_decide_eq_true y
        have ple : p ^ (k + 1) ≤ h := by omega
        have s0 : 0 < p ^ (k + 1) := Nat.pow_pos (by omega)
        obtain ⟨st, est⟩ : ∃ st, p ^ (k + 1) = st := ⟨_, rfl⟩
        rw [est] at ple s0
        have eV := step_up (fun m => geL above m - geL below m) h st s0 ple
        rw [est]
        refine ⟨_, rfl, _, rfl, _, rfl, st, rfl, _, rfl, st, rfl, c, _, rfl, SqL.of (sw _ _ hcc), ?_, ?_, fun v hv => ?_⟩
        · intro z
          have := Option.some.inj z
          omega
        · show (stepV ((List.range (h + 1)).map fun m => V.int (geL above m - geL below m)) (some (st : Int)) none (some (st : Int))).length ≤ _
          rw [eV, List.length_map, List.length_map, List.length_range, sizeLine_eq]
          have := Nat.div_le_self h st
          omega
        have eV' : stepV (lisF h fun m => geL above m - geL below m) (some (st : Int)) none (some (st : Int)) = _ := eV
        rw [eV']
        refine ⟨v, _, rfl, SqL.of upd_same, _, _, rfl, rfl, ?_⟩
        rw [at_sum s0 hav hbv]
        refine ⟨_, rfl, _, rfl, _, _, rfl, rfl, .inr ⟨by omega, by omega⟩, ⟨k + 1, ?_, sw.trans (same_upd hv), by rw [est]; exact ple⟩, ?_⟩
        · show [some (V.ref a), some (V.ref b), some (V.int (h : Int)), some (V.ref c), v4, some (V.ref l), some (V.int (p : Int)), some (V.int (runE above below p k + atS above below st)), some (V.int ((st : Int) * (p : Int)))] = _
          have e1 : runE above below p (k + 1) = runE above below p k + atS above below st := by
            rw [← est]
            rfl
          have e2 : ((p ^ (k + 1 + 1) : Nat) : Int) = (st : Int) * (p : Int) := by
            rw [Nat.pow_succ, est, Int.natCast_mul]
          rw [e1, e2]
        · show ((h : Int) + 1 - (st : Int) * (p : Int)).toNat < ((h : Int) + 1 - (st : Int)).toNat
          have : (st : Int) * 2 ≤ (st : Int) * (p : Int) := Int.mul_le_mul_of_nonneg_left (by omega) (by omega)
          omega
    obtain ⟨w8, rfl, hl8, s8⟩ := hM
    refine ⟨_, rfl, .inl ⟨rfl, _, SqL.of hl8⟩, _, rfl, _, rfl, by show 2 ≤ sizeLine; decide, fun u hu => ?_⟩
    have s9 := same_upd (o := .tup [.int (p : Int), .int (expE above below p)]) hu
    have hl9 := s9 _ _ hl8
    refine ⟨l, _, _, rfl, rfl, hl9, ?_, _, _, _, us ++ [u], rfl, ?_, ?_, ?_, ?_, by omega⟩
    · have := hR.len
      rw [List.length_take] at this
      rw [List.length_map, sizeLine_eq]
      omega
    · intro x y e
      rw [upd_ne (ne_of_none e lH1)]
      exact s9 _ _ (s8 _ _ (sg _ _ e))
    · rw [upd_same, List.map_append]
      rfl
    · rw [upd_ne cl]
      exact s9 _ _ (s8 _ _ hcc)
    · rw [take_at hp]
      exact PwR.upd (fun x e => by rw [hl9] at e; cases e) (PwR.snoc upd_same ((hR.same s8).same s9))
  obtain ⟨w4, v6, v7, v8, us, i, rfl, s7, hl7, hR, hi, hz⟩ := hM
  exact ⟨_, rfl, q l us i H7 (s1.trans s7) hl7 hR hi hz⟩
end
end TC
namespace TCX
theorem powP_append (e : Nat → Nat) : ∀ l m : List Nat, powP e (l ++ m) = powP e l * powP e m
  | [], m => (Nat.one_mul _).symm
  | p :: l, m => by
    show p ^ e p * powP e (l ++ m) = p ^ e p * powP e l * powP e m
    rw [powP_append e l m, Nat.mul_assoc]
theorem powP_snoc (e : Nat → Nat) (l : List Nat) (p : Nat) : powP e (l ++ [p]) = powP e l * p ^ e p := by
  rw [powP_append]
  show powP e l * (p ^ e p * 1) = _
  rw [Nat.mul_one]
theorem powP_none {e : Nat → Nat} {l : List Nat} (h : ∀ p ∈ l, e p = 0) : powP e l = 1 := by
  rw [powP_congr (f := fun _ => 0) h, powP_zero]
theorem pick_append (f : Nat → Bool) (l m : List Nat) : pickP f (l ++ m) = pickP f l * pickP f m := by
  rw [pick_pow, pick_pow, pick_pow, powP_append]
theorem pick_snoc (f : Nat → Bool) (l : List Nat) (p : Nat) : pickP f (l ++ [p]) = pickP f l * (if f p then p else 1) := by
  rw [pick_append]
  congr 1
  show (if f p then p * 1 else 1) = _
  rw [Nat.mul_one]
theorem pick_none {f : Nat → Bool} {l : List Nat} (h : ∀ p ∈ l, f p = false) : pickP f l = 1 := by
  rw [pick_pow]
  exact powP_none fun p hp => by rw [h p hp]; rfl
theorem legN_le (n p : Nat) : legN n p ≤ 6 * n := by
  have h : ∀ q, n / q ≤ n := fun q => Nat.div_le_self n q
  unfold legN
  have h1 := h p
  have h2 := h (p * p)
  have h3 := h (p * p * p)
  have h4 := h (p * p * p * p)
  have h5 := h (p * p * p * p * p)
  have h6 := h (p * p * p * p * p * p)
  omega
theorem sumL_le {l : List Nat} (h : ∀ n ∈ l, n < 123) (p : Nat) : sumL l p ≤ 738 * l.length := by
  induction l with
  | nil => exact Nat.le_refl _
  | cons n l ih =>
    have h1 := ih fun m hm => h m (List.mem_cons_of_mem _ hm)
    have h2 := legN_le n p
    have h3 := h n (by simp)
    show legN n p + sumL l p ≤ 738 * (l.length + 1)
    omega
theorem rat_cop {t b : Nat} (hb : 0 < b) (c : Nat.Coprime t b) : (Rat.divInt (t : Int) (b : Int)).num = (t : Int) ∧ (Rat.divInt (t : Int) (b : Int)).den = b := by
  have e : (⟨(t : Int), b, by omega, by rw [Int.natAbs_natCast]; exact c⟩ : Rat) = Rat.divInt (t : Int) (b : Int) := Rat.mk_eq_divInt ..
  rw [← e]
  exact ⟨rfl, rfl⟩
end TCX
namespace TC
open PySem PySem.Spec PyProof.Rows L2 TCX
section
variable {P : Program} {w : World} {K : PySem.W.Frag} {mg : Str → Option Value} {base : Heap} {f : Addr} {fd : FuncData} {C fI fQ : Addr}
/-! ### root_of_factorials -/
def rootL (above below : List Nat) : List Part := [((rootE above below : Nat), Rat.divInt ((topE above below : Nat) : Int) ((botE above below : Nat) : Int))]
def spRootF (C : Addr) : Sp := fun vs H Q _ => ∃ (a b : Addr) (above below : List Nat), vs = [.ref a, .ref b] ∧ H a = some (.lst (natV above)) ∧ H b = some (.lst (natV below)) ∧ 0 < above.length ∧ above.length ≤ 50 ∧ below.length ≤ 50 ∧ (∀ n ∈ above, n < 123) ∧ (∀ n ∈ below, n < 123) ∧
  ∀ x H', Same H H' → H x = none → NumAt C H' x (rootL above below) → Q (.ref x) H'
abbrev nRootF : List Str := ["above", "below", "root", "top", "bottom", "prime", "power", "half", "turn"]
theorem scRootF : FnScope nRootF ["above", "below"] (defScope sRootF) := ⟨rfl, rfl, rfl, by decide +kernel, rfl, by decide +kernel, by decide +kernel⟩
theorem ok_rootF {fP fO : Addr} {fdP fdO fdI : FuncData} (F : FnP K "root_of_factorials" sRootF f fd) (T : TxtN K mg C fI fQ) (GP : FnOk P w K mg base CX0 1 fP fdP ["above", "below"] (spPrimesF K)) (bP : L2.Binds K fdP ["above", "below"] []) (kP : PySem.W.keepIn K (.ref fP) = true) (gP : mg "primes_of_factorials" = some (.ref fP))
    (GO : FnOk P w K mg base CX0 1 fO fdO ["number"] spOdd) (bO : L2.Binds K fdO ["number"] []) (kO : PySem.W.keepIn K (.ref fO) = true) (gO : mg "is_odd" = some (.ref fO))
    (GI : FnOk P w K mg base CX0 1 fI fdI ["self", "parts"] (spInit C)) (bI : L2.Binds K fdI ["self", "parts"] []) (grange : mg "range" = none) : FnOk P w K mg base CX0 3 f fd ["above", "below"] (spRootF C) := by
  refine F.ok scRootF (fun vs H Q E h => ?_) (fun cdv A outer s H vs Q E hr h => ?_)
  · obtain ⟨_, _, _, _, rfl, _⟩ := h
    rfl
  obtain ⟨a, b, above, below, rfl, hA, hB, la0, la, lb, ha, hb, q⟩ := h
  have hr1 := hr.mono (j := 1) (by decide)
  refine ⟨_, PSs.nox (C8.pss_cut (ps_asg (pe_tup (pa_cons pe_int (pa_cons pe_int (pa_cons pe_int pa_nil)))) (pg_tup rfl (pgs_cons (pg_name (i := 2) scRootF.nd rfl (.inl rfl)) (pgs_cons (pg_name (i := 3) scRootF.nd rfl (.inl rfl)) (pgs_cons (pg_name (i := 4) scRootF.nd rfl (.inl rfl)) pgs_nil)))))
    (C8.pss_cut (ps_for PassesOwn.never rfl (pi_list (pe_call GP hr1 (by rfl) gP kP bP .nil pass0 (pa_cons (pv 0) (pa_cons (pv 1) pa_nil)))) (pg_tup rfl (pgs_cons (pg_name (i := 5) scRootF.nd rfl (.inl rfl)) (pgs_cons (pg_name (i := 6) scRootF.nd rfl (.inl rfl)) pgs_nil)))
      (pss_cons (ps_set (i := 7) scRootF.nd rfl (.inl rfl) (pe_op op_fdiv (pv 6) pe_int))
      (C8.pss_cut (ps_for PassesOwn.never rfl (pi_range1 (by rfl) grange (pa_cons (pv 7) pa_nil)) (pg_name (i := 8) scRootF.nd rfl (.inl rfl)) (pss_one (ps_aug (i := 3) scRootF.nd rfl (.inl rfl) (pv 5) iop_mul)))
      (C8.pss_cut (ps_for PassesOwn.never rfl (pi_range1 (by rfl) grange (pa_cons (pe_un un_neg (pv 7)) pa_nil)) (pg_name (i := 8) scRootF.nd rfl (.inl rfl)) (pss_one (ps_aug (i := 4) scRootF.nd rfl (.inl rfl) (pv 5) iop_mul)))
      (pss_one (ps_if (pt_val (pe_call GO hr1 (by rfl) gO kO bO .nil pass0 (pa_cons (pv 6) pa_nil))) (pss_one (ps_aug (i := 2) scRootF.nd rfl (.inl rfl) (pv 5) iop_mul)) pss_nil))))))
    (pss_one (ps_ret (pe_make T.mkr GI (hr.mono (by decide)) (by rfl) T.mgC bI .nil pass0 (pa_cons (pe_tup (pa_cons (pe_tup (pa_cons (pv 2) (pa_cons (pv 3) (pa_cons (pv 4) pa_nil)))) pa_nil)) pa_nil)))))), ?_⟩
  refine ⟨fun σ H' => σ = [some (.ref a), some (.ref b), some (.int 1), some (.int 1), some (.int 1), none, none, none, none] ∧ Same H H', ?_, fun σ H1 hM => ?_⟩
  · refine ⟨by show 3 ≤ sizeLine; decide, fun l hl => ?_⟩
    exact ⟨l, _, rfl, SqT.of upd_same, rfl, _, _, rfl, _, _, rfl, _, _, rfl, rfl, rfl, same_upd hl⟩
  obtain ⟨rfl, s1⟩ := hM
  obtain ⟨eT, heT⟩ : ∃ e : Nat → Nat, (fun p => (expE above below p / 2).toNat) = e := ⟨_, rfl⟩
  obtain ⟨eB, heB⟩ : ∃ e : Nat → Nat, (fun p => (-(expE above below p / 2)).toNat) = e := ⟨_, rfl⟩
  obtain ⟨eR, heR⟩ : ∃ e : Nat → Bool, (fun p => decide (expE above below p % 2 = 1)) = e := ⟨_, rfl⟩
  refine ⟨fun σ H' => ∃ v5 v6 v7 v8 : Option V, σ = [some (.ref a), some (.ref b), some (.int ((rootE above below : Nat) : Int)), some (.int ((topE above below : Nat) : Int)), some (.int ((botE above below : Nat) : Int)), v5, v6, v7, v8] ∧ Same H H', ?_, fun σ H2 hM => ?_⟩
  · refine ⟨_, rfl, _, rfl, a, b, above, below, rfl, s1 _ _ hA, s1 _ _ hB, la0, la, lb, ha, hb, fun l us i H2 s2 hl hR hi hz => ?_⟩
    refine ⟨l, rfl, ⟨_, SqL.of hl⟩, for_list (xs := us.map V.ref) (fun j σ H' => ∃ v5 v6 v7 v8 : Option V, σ = [some (.ref a), some (.ref b), some (.int ((pickP eR ((pr30.take i).take j) : Nat) : Int)), some (.int ((powP eT ((pr30.take i).take j) : Nat) : Int)), some (.int ((powP eB ((pr30.take i).take j) : Nat) : Int)), v5, v6, v7, v8] ∧ H' = H2)
      ⟨none, none, none, none, rfl, rfl⟩ (fun j σ H' _ hP => ?_) (fun j x σ H' hx hP => ?_) (fun σ H' hP => ?_)⟩
    · obtain ⟨_, _, _, _, _, rfl⟩ := hP
      exact SqL.of hl
    · obtain ⟨v5, v6, v7, v8, rfl, rfl⟩ := hP
      obtain ⟨u, p, rfl, hp, hu⟩ := hR.get hx
      rw [take_at hp]
      have pm : p ∈ pr30 := List.mem_of_mem_take (List.mem_of_getElem? hp)
      have pb : p < 123 := (show ∀ p ∈ pr30, p < 123 by decide +kernel) p pm
      have sa := sumL_le ha p
      have sb := sumL_le hb p
      have ex : expE above below p = (sumL above p : Int) - (sumL below p : Int) := rfl
      refine ⟨u, _, rfl, SqT.of hu, rfl, _, _, rfl, _, _, rfl, rfl, ?_⟩
      refine ⟨_, rfl, expE above below p, 2, rfl, rfl, ⟨by decide, by decide⟩, ?_⟩
      have hm1 : ∀ z : Int, CMul z (p : Int) := fun z => .inr ⟨by omega, by omega⟩
      refine ⟨fun σ G => ∃ v8 : Option V, σ = [some (.ref a), some (.ref b), some (.int ((pickP eR ((pr30.take i).take j) : Nat) : Int)), some (.int ((powP eT ((pr30.take i).take j ++ [p]) : Nat) : Int)), some (.int ((powP eB ((pr30.take i).take j) : Nat) : Int)), some (.int (p : Int)), some (.int (expE above below p)), some (.int (expE above below p / 2)), v8] ∧ G = H', ?_, fun σ H3' hM => ?_⟩
      · refine ⟨_, rfl, expE above below p / 2, rfl, by omega, by omega, for_range (fun k σ G => ∃ v8 : Option V, σ = [some (.ref a), some (.ref b), some (.int ((pickP eR ((pr30.take i).take j) : Nat) : Int)), some (.int ((powP eT ((pr30.take i).take j) * p ^ k : Nat) : Int)), some (.int ((powP eB ((pr30.take i).take j) : Nat) : Int)), some (.int (p : Int)), some (.int (expE above below p)), some (.int (expE above below p / 2)), v8] ∧ G = H') ⟨v8, ?_, rfl⟩ (fun k σ H' hk hP => ?_) (fun σ H' hP => ?_)⟩
        · rw [Nat.pow_zero, Nat.mul_one]
          rfl
        · obtain ⟨v8, rfl, rfl⟩ := hP
          refine ⟨_, rfl, _, rfl, _, _, rfl, rfl, hm1 _, some (.int (0 + (k : Int))), ?_, rfl⟩
          rw [Nat.pow_succ, ← Nat.mul_assoc, Int.natCast_mul _ p]
          rfl
        · obtain ⟨v8, rfl, rfl⟩ := hP
          refine ⟨v8, ?_, rfl⟩
          rw [powP_snoc, ← heT]
      obtain ⟨w8, rfl, e3⟩ := hM
      replace e3 := e3.symm
      subst e3
      refine ⟨fun σ G => ∃ v8 : Option V, σ = [some (.ref a), some (.ref b), some (.int ((pickP eR ((pr30.take i).take j) : Nat) : Int)), some (.int ((powP eT ((pr30.take i).take j ++ [p]) : Nat) : Int)), some (.int ((powP eB ((pr30.take i).take j ++ [p]) : Nat) : Int)), some (.int (p : Int)), some (.int (expE above below p)), some (.int (expE above below p / 2)), v8] ∧ G = H', ?_, fun σ H4 hM => ?_⟩
      · refine ⟨_, rfl, _, rfl, -(expE above below p / 2), rfl, by omega, by omega, for_range (fun k σ G => ∃ v8 : Option V, σ = [some (.ref a), some (.ref b), some (.int ((pickP eR ((pr30.take i).take j) : Nat) : Int)), some (.int ((powP eT ((pr30.take i).take j ++ [p]) : Nat) : Int)), some (.int ((powP eB ((pr30.take i).take j) * p ^ k : Nat) : Int)), some (.int (p : Int)), some (.int (expE above below p)), some (.int (expE above below p / 2)), v8] ∧ G = H') ⟨w8, ?_, rfl⟩ (fun k σ H' hk hP => ?_) (fun σ H' hP => ?_)⟩
        · rw [Nat.pow_zero, Nat.mul_one]
        · obtain ⟨v8, rfl, rfl⟩ := hP
          refine ⟨_, rfl, _, rfl, _, _, rfl, rfl, hm1 _, some (.int (0 + (k : Int))), ?_, rfl⟩
          rw [Nat.pow_succ, ← Nat.mul_assoc, Int.natCast_mul _ p]
          rfl
        · obtain ⟨v8, rfl, rfl⟩ := hP
          refine ⟨v8, ?_, rfl⟩
          rw [powP_snoc eB, ← heB]
      clear w8
      obtain ⟨w8, rfl, e4⟩ := hM
      replace e4 := e4.symm
      subst e4
      refine ⟨_, rfl, expE above below p, rfl, _, rfl, ?_⟩
      by_cases ho : expE above below p % 2 = 1
      · refine iteD1 ho ?_
        refine ⟨_, rfl, _, rfl, _, _, rfl, rfl, hm1 _, some (.int (p : Int)), some (.int (expE above below p)), some (.int (expE above below p / 2)), w8, ?_, rfl⟩
        rw [pick_snoc, ← heR, if_pos (decide_eq_true ho), Int.natCast_mul _ p]
        rfl
      · refine iteD0 ho ?_
        refine ⟨some (.int (p : Int)), some (.int (expE above below p)), some (.int (expE above below p / 2)), w8, ?_, rfl⟩
        rw [pick_snoc, ← heR, if_neg (by dsimp only; rw [decide_eq_false ho]; exact Bool.false_ne_true), Nat.mul_one]
    · obtain ⟨v5, v6, v7, v8, rfl, rfl⟩ := hP
      refine ⟨v5, v6, v7, v8, ?_, s1.trans s2⟩
      have lu := hR.len
      have et : (pr30.take i).take (us.map V.ref).length = pr30.take i := by
        rw [List.length_map, lu, List.take_length]
      rw [et]
      have e1 : rootE above below = pickP eR (pr30.take i) := by
        unfold rootE
        rw [heR]
        conv => lhs; rw [← List.take_append_drop i pr30]
        rw [pick_append, pick_none (l := pr30.drop i) fun p hp => by rw [← heR]; dsimp only; rw [hz p hp]; rfl, Nat.mul_one]
      have e2 : topE above below = powP eT (pr30.take i) := by
        unfold topE
        rw [heT]
        conv => lhs; rw [← List.take_append_drop i pr30]
        rw [powP_append, powP_none (l := pr30.drop i) fun p hp => by rw [← heT]; dsimp only; rw [hz p hp]; rfl, Nat.mul_one]
      have e3 : botE above below = powP eB (pr30.take i) := by
        unfold botE
        rw [heB]
        conv => lhs; rw [← List.take_append_drop i pr30]
        rw [powP_append, powP_none (l := pr30.drop i) fun p hp => by rw [← heB]; dsimp only; rw [hz p hp]; rfl, Nat.mul_one]
      rw [e1, e2, e3]
  obtain ⟨v5, v6, v7, v8, rfl, s2⟩ := hM
  refine ⟨_, rfl, _, rfl, _, rfl, by show 3 ≤ sizeLine; decide, fun u hu => ?_⟩
  refine ⟨by show 1 ≤ sizeLine; decide, fun p hp => ?_⟩
  have s3 := same_upd (o := .tup [.int ((rootE above below : Nat) : Int), .int ((topE above below : Nat) : Int), .int ((botE above below : Nat) : Int)]) hu
  have s4 := same_upd (o := .tup [.ref u]) hp
  obtain ⟨c1, c2⟩ := rat_cop (botE_pos above below) (topE_cop above below)
  have hpar : parV ((rootE above below : Nat), Rat.divInt ((topE above below : Nat) : Int) ((botE above below : Nat) : Int)) = .tup [.int ((rootE above below : Nat) : Int), .int ((topE above below : Nat) : Int), .int ((botE above below : Nat) : Int)] := by
    unfold parV
    dsimp only
    rw [c1, c2]
  refine made_num (C := C) (L := rootL above below) ⟨[u], upd_same, ?_, trivial⟩ fun x H5 s5 hx hN => q x H5 ((s2.trans (s3.trans s4)).trans s5) ((s2.trans (s3.trans s4)).free hx) hN
  rw [hpar]
  exact s4 _ _ upd_same
end
end TC
namespace TC
open PySem PySem.Spec PyProof.Rows L2 TCX
def canB (a b c : Int) : Bool := !decide ((a + b + c) % 2 = 1) && (decide (a ≤ b + c) && (decide (b ≤ a + c) && decide (c ≤ a + b)))
theorem canB_iff {a b c : Int} : canB a b c = true ↔ (a + b + c) % 2 = 0 ∧ a ≤ b + c ∧ b ≤ a + c ∧ c ≤ a + b := by
  unfold canB
  simp only [Bool.and_eq_true, Bool.not_eq_true', decide_eq_true_eq, decide_eq_false_iff_not]
  omega
/-- a size and an offset of it -/
structure PairP (t o : Int) : Prop where
  t0 : 0 ≤ t
  t1 : t ≤ 40
  lo : -t ≤ o
  hi : o ≤ t
  ev : (t - o) % 2 = 0
section
variable {X : Cx}
theorem iop_mulW : OpR X (inplaceOp .Mult) (rI CMulW fun i j => .int (i * j)) := opI fun _ _ _ _ _ _ _ hc q => imul_int q hc.ok
end
section
variable {P : Program} {w : World} {K : PySem.W.Frag} {mg : Str → Option Value} {base : Heap} {f : Addr} {fd : FuncData} {C fI fQ : Addr}
/-! ### can_join -/
def spCanJoin : Sp := fun vs H Q _ => ∃ a b c : Int, vs = [.int a, .int b, .int c] ∧ Q (.bl (canB a b c)) H
abbrev nCanJoin : List Str := ["one", "other", "third"]
theorem scCanJoin : FnScope nCanJoin ["one", "other", "third"] (defScope sCanJoin) := ⟨rfl, rfl, rfl, by decide +kernel, rfl, by decide +kernel, by decide +kernel⟩
theorem ok_canJoin {fO : Addr} {fdO : FuncData} (F : FnP K "can_join" sCanJoin f fd) (GO : FnOk P w K mg base CX0 1 fO fdO ["number"] spOdd) (bO : L2.Binds K fdO ["number"] []) (kO : PySem.W.keepIn K (.ref fO) = true) (gO : mg "is_odd" = some (.ref fO)) :
    FnOk P w K mg base CX0 2 f fd ["one", "other", "third"] spCanJoin := by
  refine F.ok scCanJoin (fun vs H Q E h => ?_) (fun cdv A outer s H vs Q E hr h => ?_)
  · obtain ⟨_, _, _, rfl, _⟩ := h
    rfl
  obtain ⟨a, b, c, rfl, q⟩ := h
  have hr1 := hr.mono (j := 1) (by decide)
  refine ⟨_, PSs.nox (pss_cons (ps_if (pt_val (pe_call GO hr1 (by rfl) gO kO bO .nil pass0 (pa_cons (pe_op op_add (pe_op op_add (pv 0) (pv 1)) (pv 2)) pa_nil))) (pss_one (ps_ret pe_bl)) pss_nil)
      (pss_one (ps_ret (pe_and (pe_cmpR op_le (pv 0) (pe_op op_add (pv 1) (pv 2)) (nomark _)) (pe_and (pe_cmpR op_le (pv 1) (pe_op op_add (pv 0) (pv 2)) (nomark _)) (pe_one (pe_cmpR op_le (pv 2) (pe_op op_add (pv 0) (pv 1)) (nomark _)))))))), ?_⟩
  refine ⟨_, rfl, _, rfl, a, b, rfl, rfl, _, rfl, a + b, c, rfl, rfl, a + b + c, rfl, _, rfl, ?_⟩
  unfold canB at q
  by_cases h1 : (a + b + c) % 2 = 1
  · refine iteD1 h1 ?_
    rw [decide_eq_true h1] at q
    exact q
  refine iteD0 h1 ?_
  rw [decide_eq_false h1, show (!false) = true from rfl, Bool.true_and] at q
  refine ⟨_, rfl, _, rfl, _, rfl, b, c, rfl, rfl, a, b + c, rfl, rfl, _, rfl, ?_⟩
  by_cases h2 : a ≤ b + c
  · refine iteD1 h2 ?_
    rw [decide_eq_true h2, Bool.true_and] at q
    refine ⟨_, rfl, _, rfl, _, rfl, a, c, rfl, rfl, b, a + c, rfl, rfl, _, rfl, ?_⟩
    by_cases h3 : b ≤ a + c
    · refine iteD1 h3 ?_
      rw [decide_eq_true h3, Bool.true_and] at q
      exact ⟨_, rfl, _, rfl, _, rfl, a, b, rfl, rfl, c, a + b, rfl, rfl, q⟩
    · refine iteD0 h3 ?_
      rw [decide_eq_false h3, Bool.false_and] at q
      exact q
  · refine iteD0 h2 ?_
    rw [decide_eq_false h2, Bool.false_and] at q
    exact q
/-! ### is_size, is_offset, need_sizes, need_pairs, of what is right -/
def spIsSize : Sp := fun vs H Q _ => ∃ n : Int, vs = [.int n] ∧ 0 ≤ n ∧ n ≤ 40 ∧ Q (.bl true) H
abbrev nIsSize : List Str := ["thing"]
theorem scIsSize : FnScope nIsSize ["thing"] (defScope sIsSize) := ⟨rfl, rfl, rfl, by decide +kernel, rfl, by decide +kernel, by decide +kernel⟩
theorem ok_isSize {fW : Addr} {fdW : FuncData} {tH : Tok} (F : FnP K "is_size" sIsSize f fd) (GW : FnOk P w K mg base CX0 1 fW fdW ["thing"] spWhole) (bW : L2.Binds K fdW ["thing"] []) (kW : PySem.W.keepIn K (.ref fW) = true) (gW : mg "is_whole" = some (.ref fW)) (gH : mg "HIGHEST_SIZE" = some (.int 40 tH)) :
    FnOk P w K mg base CX0 2 f fd ["thing"] spIsSize := by
  refine F.ok scIsSize (fun vs H Q E h => ?_) (fun cdv A outer s H vs Q E hr h => ?_)
  · obtain ⟨_, rfl, _⟩ := h
    rfl
  obtain ⟨n, rfl, n0, n1, q⟩ := h
  have hr1 := hr.mono (j := 1) (by decide)
  refine ⟨_, PSs.nox (pss_one (ps_ret (pe_and (pe_call GW hr1 (by rfl) gW kW bW .nil pass0 (pa_cons (pv 0) pa_nil)) (pe_one (pe_chain op_le op_le pe_int (pv 0) (pe_glob (v := .int 40) (by rfl) gH ⟨_, rfl⟩)))))), ?_⟩
  refine ⟨_, rfl, n, rfl, true, rfl, iteT ?_⟩
  refine ⟨_, rfl, 0, n, rfl, rfl, true, congrArg V.bl (decide_eq_true n0), iteT ?_⟩
  refine ⟨n, 40, rfl, rfl, ?_⟩
  show Q (.bl (decide (n ≤ 40))) _
  rw [decide_eq_true n1]
  exact q
def spIsOffset : Sp := fun vs H Q _ => ∃ t o : Int, vs = [.int o, .int t] ∧ PairP t o ∧ Q (.bl true) H
abbrev nIsOffset : List Str := ["thing", "size"]
theorem scIsOffset : FnScope nIsOffset ["thing", "size"] (defScope sIsOffset) := ⟨rfl, rfl, rfl, by decide +kernel, rfl, by decide +kernel, by decide +kernel⟩
theorem ok_isOffset {fW fO : Addr} {fdW fdO : FuncData} (F : FnP K "is_offset" sIsOffset f fd) (GW : FnOk P w K mg base CX0 1 fW fdW ["thing"] spWhole) (bW : L2.Binds K fdW ["thing"] []) (kW : PySem.W.keepIn K (.ref fW) = true) (gW : mg "is_whole" = some (.ref fW))
    (GO : FnOk P w K mg base CX0 1 fO fdO ["number"] spOdd) (bO : L2.Binds K fdO ["number"] []) (kO : PySem.W.keepIn K (.ref fO) = true) (gO : mg "is_odd" = some (.ref fO)) :
    FnOk P w K mg base CX0 2 f fd ["thing", "size"] spIsOffset := by
  refine F.ok scIsOffset (fun vs H Q E h => ?_) (fun cdv A outer s H vs Q E hr h => ?_)
  · obtain ⟨_, _, rfl, _⟩ := h
    rfl
  obtain ⟨t, o, rfl, ⟨t0, t1, h1, h2, h3⟩, q⟩ := h
  have hr1 := hr.mono (j := 1) (by decide)
  refine ⟨_, PSs.nox (pss_one (ps_ret (pe_and (pe_call GW hr1 (by rfl) gW kW bW .nil pass0 (pa_cons (pv 0) pa_nil)) (pe_and (pe_chain op_le op_le (pe_un un_neg (pv 1)) (pv 0) (pv 1)) (pe_one (pe_not (pe_call GO hr1 (by rfl) gO kO bO .nil pass0 (pa_cons (pe_op op_sub (pv 1) (pv 0)) pa_nil)))))))), ?_⟩
  refine ⟨_, rfl, o, rfl, true, rfl, iteT ?_⟩
  refine ⟨_, rfl, t, rfl, _, rfl, -t, o, rfl, rfl, true, congrArg V.bl (decide_eq_true h1), iteT ?_⟩
  refine ⟨_, rfl, o, t, rfl, rfl, true, congrArg V.bl (decide_eq_true h2), iteT ?_⟩
  refine ⟨_, rfl, _, rfl, t, o, rfl, rfl, t - o, rfl, false, congrArg V.bl (decide_eq_false (by omega)), q⟩
def spNeedSizes : Sp := fun vs H Q _ => ∃ (l : Addr) (ns : List Int), vs = [.ref l] ∧ H l = some (.lst (ns.map V.int)) ∧ (∀ n ∈ ns, 0 ≤ n ∧ n ≤ 40) ∧ Q .non H
abbrev nNeedSizes : List Str := ["things", "thing"]
theorem scNeedSizes : FnScope nNeedSizes ["things"] (defScope sNeedSizes) := ⟨rfl, rfl, rfl, by decide +kernel, rfl, by decide +kernel, by decide +kernel⟩
theorem ok_needSizes {fS : Addr} {fdS : FuncData} (F : FnP K "need_sizes" sNeedSizes f fd) (GS : FnOk P w K mg base CX0 2 fS fdS ["thing"] spIsSize) (bS : L2.Binds K fdS ["thing"] []) (kS : PySem.W.keepIn K (.ref fS) = true) (gS : mg "is_size" = some (.ref fS)) :
    FnOk P w K mg base CX0 3 f fd ["things"] spNeedSizes := by
  refine F.ok scNeedSizes (fun vs H Q E h => ?_) (fun cdv A outer s H vs Q E hr h => ?_)
  · obtain ⟨_, _, rfl, _⟩ := h
    rfl
  obtain ⟨l, ns, rfl, hl, hn, q⟩ := h
  have hr2 := hr.mono (j := 2) (by decide)
  refine ⟨_, PSs.nox (pss_one (ps_for PassesOwn.never rfl (pi_list (pv 0)) (pg_name (i := 1) scNeedSizes.nd rfl (.inl rfl))
        (pss_one (ps_if (pt_not (pt_val (pe_call GS hr2 (by rfl) gS kS bS .nil pass0 (pa_cons (pv 1) pa_nil)))) pss_never pss_nil)))), ?_⟩
  refine ⟨_, rfl, l, rfl, ⟨_, SqL.of hl⟩, for_list (xs := ns.map V.int) (fun i σ H' => (∃ v, σ = [some (.ref l), v]) ∧ H' = H) ⟨⟨none, rfl⟩, rfl⟩ (fun i σ H' _ hP => by rw [hP.2]; exact SqL.of hl) (fun i x σ H' hx hP => ?_) (fun σ H' hP => by rw [hP.2]; exact q)⟩
  obtain ⟨⟨v, rfl⟩, rfl⟩ := hP
  rw [List.getElem?_map] at hx
  cases e : ns[i]? with
  | none =>
    rw [e] at hx
    cases hx
  | some n =>
    rw [e] at hx
    obtain rfl := Option.some.inj hx
    obtain ⟨n0, n1⟩ := hn n (List.mem_of_getElem? e)
    exact ⟨_, rfl, n, rfl, n0, n1, true, rfl, iteF ⟨⟨_, rfl⟩, rfl⟩⟩
/-- pairs on the heap -/
def pairO (x : Int × Int) : HO := .tup [.int x.1, .int x.2]
def PrsAt (H : Hp) : List Addr → List (Int × Int) → Prop
  | [], [] => True
  | u :: us, x :: L => H u = some (pairO x) ∧ PrsAt H us L
  | _, _ => False
theorem PrsAt.get {H : Hp} : ∀ {us : List Addr} {L : List (Int × Int)} {i : Nat} {v : V}, PrsAt H us L → (us.map V.ref)[i]? = some v → ∃ u x, v = .ref u ∧ L[i]? = some x ∧ H u = some (pairO x)
  | [], [], i, v, _, z => by simp at z
  | u :: us, p :: ps, 0, v, h, z => ⟨u, p, (Option.some.inj z).symm, rfl, h.1⟩
  | u :: us, p :: ps, i + 1, v, h, z => by
    have z' : (us.map V.ref)[i]? = some v := z
    obtain ⟨u', p', a, b, c⟩ := PrsAt.get h.2 z'
    exact ⟨u', p', a, b, c⟩
  | [], _ :: _, _, _, h, _ => h.elim
  | _ :: _, [], _, _, h, _ => h.elim
theorem PrsAt.same {H H' : Hp} (s : Same H H') : ∀ {us : List Addr} {L : List (Int × Int)}, PrsAt H us L → PrsAt H' us L
  | [], [], _ => trivial
  | _ :: _, _ :: _, h => ⟨s _ _ h.1, PrsAt.same s h.2⟩
  | [], _ :: _, h => h.elim
  | _ :: _, [], h => h.elim
def spNeedPairs : Sp := fun vs H Q _ => ∃ (l : Addr) (us : List Addr) (L : List (Int × Int)), vs = [.ref l] ∧ H l = some (.lst (us.map V.ref)) ∧ PrsAt H us L ∧ (∀ x ∈ L, PairP x.1 x.2) ∧ ∀ H', Same H H' → Q .non H'
abbrev nNeedPairs : List Str := ["things", "thing", "size", "offset"]
theorem scNeedPairs : FnScope nNeedPairs ["things"] (defScope sNeedPairs) := ⟨rfl, rfl, rfl, by decide +kernel, rfl, by decide +kernel, by decide +kernel⟩
theorem ok_needPairs {fN fF : Addr} {fdN fdF : FuncData} (F : FnP K "need_pairs" sNeedPairs f fd) (GN : FnOk P w K mg base CX0 3 fN fdN ["things"] spNeedSizes) (bN : L2.Binds K fdN ["things"] []) (kN : PySem.W.keepIn K (.ref fN) = true) (gN : mg "need_sizes" = some (.ref fN))
    (GF : FnOk P w K mg base CX0 2 fF fdF ["thing", "size"] spIsOffset) (bF : L2.Binds K fdF ["thing", "size"] []) (kF : PySem.W.keepIn K (.ref fF) = true) (gF : mg "is_offset" = some (.ref fF)) (gisinstance : mg "isinstance" = none) (gtuple : mg "tuple" = none) (glen : mg "len" = none) :
    FnOk P w K mg base CX0 4 f fd ["things"] spNeedPairs := by
  refine F.ok scNeedPairs (fun vs H Q E h => ?_) (fun cdv A outer s H vs Q E hr h => ?_)
  · obtain ⟨_, _, _, rfl, _⟩ := h
    rfl
  obtain ⟨l, us, L, rfl, hl, hp, hL, q⟩ := h
  have hr2 := hr.mono (j := 2) (by decide)
  have hr3 := hr.mono (j := 3) (by decide)
  refine ⟨_, PSs.nox (pss_cons (ps_for PassesOwn.never rfl (pi_list (pv 0)) (pg_name (i := 1) scNeedPairs.nd rfl (.inl rfl))
        (pss_cons (ps_if (PW.pt (pw_or (pt_not (pt_val (pe_callB call_isi (by rfl) gisinstance (by decide +kernel) (pa_cons (pv 1) (pa_cons (pe_bltn (v := .ty "tuple") (by rfl) gtuple (by decide +kernel) rfl) pa_nil))))) (pw_or1 (pt_cmpR op_ne (pe_callB call_len_seq (by rfl) glen PySem.boot_len (pa_cons (pv 1) pa_nil)) pe_int (nomark _))))) pss_never pss_nil)
      (pss_one (ps_expr (pe_call GN hr3 (by rfl) gN kN bN .nil pass0 (pa_cons (pe_lst (pa_cons (pe_ix ix_tup (pv 1) pe_int (fun _ _ => rfl)) pa_nil)) pa_nil))))))
      (pss_one (ps_for PassesOwn.never rfl (pi_list (pv 0)) (pg_tup rfl (pgs_cons (pg_name (i := 2) scNeedPairs.nd rfl (.inl rfl)) (pgs_cons (pg_name (i := 3) scNeedPairs.nd rfl (.inl rfl)) pgs_nil)))
        (pss_one (ps_if (pt_not (pt_val (pe_call GF hr2 (by rfl) gF kF bF .nil pass0 (pa_cons (pv 3) (pa_cons (pv 2) pa_nil))))) pss_never pss_nil))))), ?_⟩
  refine ⟨_, rfl, l, rfl, ⟨_, SqL.of hl⟩, for_list (xs := us.map V.ref) (fun i σ H' => (∃ v, σ = [some (.ref l), v, none, none]) ∧ Same H H') ⟨⟨none, rfl⟩, fun _ _ e => e⟩ (fun i σ H' _ hP => SqL.of (hP.2 _ _ hl)) (fun i x σ H' hx hP => ?_) (fun σ H' hP => ?_)⟩
  · obtain ⟨⟨v, rfl⟩, sm⟩ := hP
    obtain ⟨u, y, rfl, hy, hu⟩ := (hp.same sm).get hx
    have hpair := hL y (List.mem_of_getElem? hy)
    refine ⟨_, rfl, _, _, _, _, true, rfl, .ty "tuple", .base (.tup hu), kit_ty (by decide +kernel), true, rfl, iteF ?_⟩
    refine ⟨_, rfl, u, _, rfl, .inr (SqT.of hu), rfl, _, rfl, iteF ?_⟩
    refine ⟨_, rfl, u, _, 0, _, rfl, rfl, SqT.of hu, atI_nat (j := 0) rfl, by show 1 ≤ sizeLine; decide, fun l2 hl2 => ?_⟩
    exact ⟨l2, [y.1], rfl, upd_same, (fun n hn => by rw [List.mem_singleton.mp hn]; exact ⟨hpair.t0, hpair.t1⟩), ⟨_, rfl⟩, sm.trans (same_upd hl2)⟩
  · obtain ⟨⟨v, rfl⟩, sm⟩ := hP
    refine ⟨_, rfl, l, rfl, ⟨_, SqL.of (sm _ _ hl)⟩, for_list (xs := us.map V.ref) (fun i σ G => (∃ v2 v3, σ = [some (.ref l), v, v2, v3]) ∧ G = H') ⟨⟨none, none, rfl⟩, rfl⟩ (fun i σ G _ hP => by rw [hP.2]; exact SqL.of (sm _ _ hl)) (fun i x σ G hx hP => ?_) (fun σ G hP => by rw [hP.2]; exact q H' sm)⟩
    obtain ⟨⟨v2, v3, rfl⟩, rfl⟩ := hP
    obtain ⟨u, y, rfl, hy, hu⟩ := (hp.same sm).get hx
    have hpair := hL y (List.mem_of_getElem? hy)
    exact ⟨u, _, rfl, SqT.of hu, rfl, _, _, rfl, _, _, rfl, rfl, _, rfl, _, rfl, y.1, y.2, rfl, hpair, true, rfl, iteF ⟨⟨_, _, rfl⟩, rfl⟩⟩
end
end TC
namespace TCX
set_option exponentiation.threshold 20000
theorem fact_lt : ∀ n, n < 62 → factN n < 2 ^ 280 := by decide +kernel
def foldF (g : Int → Nat) (m : Nat) (l : List Int) : Nat := l.foldl (fun m x => m * factN (g x)) m
theorem foldF_snoc (g : Int → Nat) (m : Nat) (l : List Int) (x : Int) : foldF g m (l ++ [x]) = foldF g m l * factN (g x) := by
  unfold foldF
  rw [List.foldl_append]
  rfl
theorem foldF_lt {g : Int → Nat} : ∀ {l : List Int} {m B : Nat}, (∀ x ∈ l, g x < 62) → m < 2 ^ B → foldF g m l < 2 ^ (B + 280 * l.length)
  | [], m, B, _, hm => hm
  | x :: l, m, B, h, hm => by
    have h1 : m * factN (g x) < 2 ^ (B + 280) := by
      rw [Nat.pow_add]
      exact Nat.mul_lt_mul'' hm (fact_lt _ (h x (by simp)))
    have h2 := foldF_lt (l := l) (fun y hy => h y (List.mem_cons_of_mem _ hy)) h1
    show foldF g (m * factN (g x)) l < 2 ^ (B + 280 * (l.length + 1))
    rw [show B + 280 * (l.length + 1) = B + 280 + 280 * l.length by omega]
    exact h2
end TCX
namespace TC
set_option exponentiation.threshold 20000
open PySem PySem.Spec PyProof.Rows L2 TCX
theorem PrsAt.snoc {H : Hp} {u : Addr} {x : Int × Int} (hu : H u = some (pairO x)) : ∀ {us : List Addr} {L : List (Int × Int)}, PrsAt H us L → PrsAt H (us ++ [u]) (L ++ [x])
  | [], [], _ => ⟨hu, trivial⟩
  | _ :: _, _ :: _, h => ⟨h.1, PrsAt.snoc hu h.2⟩
  | [], _ :: _, h => h.elim
  | _ :: _, [], h => h.elim
theorem PrsAt.upd {H : Hp} {l : Addr} {o : HO} (hl : ∀ x, H l ≠ some (.tup x)) : ∀ {us : List Addr} {L : List (Int × Int)}, PrsAt H us L → PrsAt (L2.upd H l o) us L
  | [], [], _ => trivial
  | u :: us, p :: ps, h => ⟨by
    rw [upd_ne fun z => hl _ (by rw [← z]; exact h.1)]
    exact h.1, PrsAt.upd hl h.2⟩
  | [], _ :: _, h => h.elim
  | _ :: _, [], h => h.elim
theorem PrsAt.len {H : Hp} : ∀ {us : List Addr} {L : List (Int × Int)}, PrsAt H us L → us.length = L.length
  | [], [], _ => rfl
  | _ :: _, _ :: _, h => congrArg Nat.succ (PrsAt.len h.2)
  | [], _ :: _, h => h.elim
  | _ :: _, [], h => h.elim
theorem ints_at {l : List Int} {i : Nat} {x : V} (h : (l.map V.int)[i]? = some x) : ∃ n : Int, l[i]? = some n ∧ x = .int n := by
  rw [List.getElem?_map] at h
  cases e : l[i]? with
  | none =>
    rw [e] at h
    cases h
  | some n =>
    rw [e] at h
    exact ⟨n, rfl, (Option.some.inj h).symm⟩
theorem take_atI {l : List Int} {i : Nat} {n : Int} (h : l[i]? = some n) : l.take (i + 1) = l.take i ++ [n] := by
  rw [List.take_add_one, h]
  rfl
def factsL (n : Nat) : List V := (List.range (n + 1)).map fun m => V.int (factN m : Nat)
theorem facts_at {n : Nat} {i : Int} (h0 : 0 ≤ i) (h1 : i ≤ n) : atI (factsL n) i = some (.int (factN i.toNat : Nat)) := by
  refine at_of (j := i.toNat) (by omega) ?_
  unfold factsL
  rw [List.getElem?_map, List.getElem?_range (by omega)]
  rfl
/-- signs and bottoms -/
def tmL (A B C : Nat) (D E : Int) (lo n : Nat) : List (Int × Int) := (List.range n).map fun i => (sgK (lo + i), ((botK A B C D E (lo + i) : Nat) : Int))
theorem tmL_succ (A B C : Nat) (D E : Int) (lo n : Nat) : tmL A B C D E lo (n + 1) = tmL A B C D E lo n ++ [(sgK (lo + n), ((botK A B C D E (lo + n) : Nat) : Int))] := by
  unfold tmL
  rw [List.range_succ, List.map_append]
  rfl
section
variable {P : Program} {w : World} {K : PySem.W.Frag} {mg : Str → Option Value} {base : Heap} {f : Addr} {fd : FuncData} {C fI fQ : Addr}
/-! ### terms_of_joined -/
structure TmP (a u b v c : Int) (A B C : Nat) (D E : Int) (s : Nat) : Prop where
  eA : (a + b - c) / 2 = A
  eB : (a - u) / 2 = B
  eC : (b + v) / 2 = C
  eD : (c - b + u) / 2 = D
  eE : (c - a - v) / 2 = E
  eS : (a + b + c) / 2 = s
  lA : A ≤ s
  lB : B ≤ s
  lC : C ≤ s
  lD : B + D ≤ s
  lE : C + E ≤ s
  s1 : s < 62
def spTerms : Sp := fun vs H Q _ => ∃ (p1 p2 : Addr) (a u b v c : Int) (A B C : Nat) (D E : Int) (s : Nat), vs = [.ref p1, .ref p2, .int c] ∧ H p1 = some (pairO (a, u)) ∧ H p2 = some (pairO (b, v)) ∧ TmP a u b v c A B C D E s ∧
  ∀ (l : Addr) (us : List Addr) (lo hi : Int) H', Same H H' → H' l = some (.lst (us.map V.ref)) → 0 ≤ lo → (∀ k : Nat, okK A B C D E k = true ↔ lo ≤ k ∧ (k : Int) ≤ hi) → hi ≤ A → PrsAt H' us (tmL A B C D E lo.toNat (hi + 1 - lo).toNat) → Q (.ref l) H'
abbrev nTerms : List Str := ["one", "other", "c", "a", "u", "b", "v", "falling", "rising", "known", "terms", "k", "bottom", "number"]
theorem scTerms : FnScope nTerms ["one", "other", "c"] (defScope sTerms) := ⟨rfl, rfl, rfl, by decide +kernel, rfl, by decide +kernel, by decide +kernel⟩
theorem ok_terms {fA fO : Addr} {fdA fdO : FuncData} (F : FnP K "terms_of_joined" sTerms f fd) (GA : FnOk P w K mg base CX0 1 fA fdA ["high"] spFacts) (bA : L2.Binds K fdA ["high"] []) (kA : PySem.W.keepIn K (.ref fA) = true) (gA : mg "factorials" = some (.ref fA))
    (GO : FnOk P w K mg base CX0 1 fO fdO ["number"] spOdd) (bO : L2.Binds K fdO ["number"] []) (kO : PySem.W.keepIn K (.ref fO) = true) (gO : mg "is_odd" = some (.ref fO)) (gmin : mg "min" = none) (grange : mg "range" = none) :
    FnOk P w K mg base CX0 2 f fd ["one", "other", "c"] spTerms := by
  refine F.ok scTerms (fun vs H Q E h => ?_) (fun cdv Ar outer s H vs Q E' hr h => ?_)
  · obtain ⟨_, _, _, _, _, _, _, _, _, _, _, _, _, rfl, _⟩ := h
    rfl
  obtain ⟨p1, p2, a, u, b, v, c, A, B, C, D, E, S, rfl, hp1, hp2, ⟨eA, eB, eC, eD, eE, eS, lA, lB, lC, lD, lE, s1⟩, q⟩ := h
  have hr1 := hr.mono (j := 1) (by decide)
  refine ⟨_, PSs.nox (C8.pss_cut (ps_asg (pe_tup (pa_cons (pv 0) (pa_cons (pv 1) pa_nil))) (pg_tup rfl (pgs_cons (pg_tup rfl (pgs_cons (pg_name (i := 3) scTerms.nd rfl (.inl rfl)) (pgs_cons (pg_name (i := 4) scTerms.nd rfl (.inl rfl)) pgs_nil))) (pgs_cons (pg_tup rfl (pgs_cons (pg_name (i := 5) scTerms.nd rfl (.inl rfl)) (pgs_cons (pg_name (i := 6) scTerms.nd rfl (.inl rfl)) pgs_nil))) pgs_nil))))
      (pss_cons (ps_set (i := 7) scTerms.nd rfl (.inl rfl) (pe_lst (pa_cons (pe_op op_fdiv (pe_op op_sub (pe_op op_add (pv 3) (pv 5)) (pv 2)) pe_int) (pa_cons (pe_op op_fdiv (pe_op op_sub (pv 3) (pv 4)) pe_int) (pa_cons (pe_op op_fdiv (pe_op op_add (pv 5) (pv 6)) pe_int) pa_nil)))))
      (pss_cons (ps_set (i := 8) scTerms.nd rfl (.inl rfl) (pe_lst (pa_cons pe_int (pa_cons (pe_op op_fdiv (pe_op op_add (pe_op op_sub (pv 2) (pv 5)) (pv 4)) pe_int) (pa_cons (pe_op op_fdiv (pe_op op_sub (pe_op op_sub (pv 2) (pv 3)) (pv 6)) pe_int) pa_nil)))))
      (pss_cons (ps_set (i := 9) scTerms.nd rfl (.inl rfl) (pe_call GA hr1 (by rfl) gA kA bA .nil pass0 (pa_cons (pe_op op_fdiv (pe_op op_add (pe_op op_add (pv 3) (pv 5)) (pv 2)) pe_int) pa_nil)))
      (C8.pss_cut (ps_set (i := 10) scTerms.nd rfl (.inl rfl) (pe_lst pa_nil))
      (pss_cons (ps_for PassesOwn.never rfl (pi_range2 (by rfl) grange (pa_cons (pe_un un_neg (pe_callB (cr_min rfl) (by rfl) gmin (by decide +kernel) (pa_cons (pv 8) pa_nil))) (pa_cons (pe_op op_add (pe_callB (cr_min rfl) (by rfl) gmin (by decide +kernel) (pa_cons (pv 7) pa_nil)) pe_int) pa_nil))) (pg_name (i := 11) scTerms.nd rfl (.inl rfl))
        (pss_cons (ps_set (i := 12) scTerms.nd rfl (.inl rfl) pe_int)
      (C8.pss_cut (ps_for PassesOwn.never rfl (pi_list (pv 7)) (pg_name (i := 13) scTerms.nd rfl (.inl rfl))
        (pss_one (ps_aug (i := 12) scTerms.nd rfl (.inl rfl) (pe_ix ix_list (pv 9) (pe_op op_sub (pv 13) (pv 11)) (fun _ _ => rfl)) iop_mulW)))
      (C8.pss_cut (ps_for PassesOwn.never rfl (pi_list (pv 8)) (pg_name (i := 13) scTerms.nd rfl (.inl rfl))
        (pss_one (ps_aug (i := 12) scTerms.nd rfl (.inl rfl) (pe_ix ix_list (pv 9) (pe_op op_add (pv 13) (pv 11)) (fun _ _ => rfl)) iop_mulW)))
      (pss_one (ps_expr (pe_bm PySem.F.plainAttrs_list PySem.F.slot_list_append PySem.F.type_list_append mt_append (pv 10) (pa_cons (pe_tup (pa_cons (pe_ifExp (pt_val (pe_call GO hr1 (by rfl) gO kO bO .nil pass0 (pa_cons (pv 11) pa_nil))) (pe_un un_neg pe_int) pe_int) (pa_cons (pv 12) pa_nil))) pa_nil))))))))
      (pss_one (ps_ret (pv 10))))))))), ?_⟩
  refine ⟨fun σ H' => σ = [some (.ref p1), some (.ref p2), some (.int c), some (.int a), some (.int u), some (.int b), some (.int v), none, none, none, none, none, none, none] ∧ Same H H', ?_, fun σ H1 hM => ?_⟩
  · refine ⟨_, rfl, _, rfl, by show 2 ≤ sizeLine; decide, fun l hl => ?_⟩
    have s2 := same_upd (o := .tup [.ref p1, .ref p2]) hl
    exact ⟨l, _, rfl, SqT.of upd_same, rfl, _, _, rfl, p1, _, rfl, SqT.of (s2 _ _ hp1), rfl, _, _, rfl, _, _, rfl, rfl, _, _, rfl, p2, _, rfl, SqT.of (s2 _ _ hp2), rfl, _, _, rfl, _, _, rfl, rfl, rfl, rfl, s2⟩
  obtain ⟨rfl, t1⟩ := hM
  have d2 : ∀ z : Int, CDiv z 2 := fun _ => ⟨by decide, by decide⟩
  refine ⟨_, rfl, _, rfl, a, b, rfl, rfl, _, rfl, a + b, c, rfl, rfl, a + b - c, 2, rfl, rfl, d2 _, _, rfl, _, rfl, a, u, rfl, rfl, a - u, 2, rfl, rfl, d2 _, _, rfl, _, rfl, b, v, rfl, rfl, b + v, 2, rfl, rfl, d2 _, by show 3 ≤ sizeLine; decide, fun fl hfl => ?_⟩
  have t2 := same_upd (o := .lst ([(A : Int), (B : Int), (C : Int)].map V.int)) hfl
  have eF : HO.lst [V.int ((a + b - c) / 2), V.int ((a - u) / 2), V.int ((b + v) / 2)] = .lst ([(A : Int), (B : Int), (C : Int)].map V.int) := by rw [eA, eB, eC]; rfl
  rw [eF]
  refine ⟨_, rfl, _, rfl, c, b, rfl, rfl, _, rfl, c - b, u, rfl, rfl, c - b + u, 2, rfl, rfl, d2 _, _, rfl, _, rfl, c, a, rfl, rfl, _, rfl, c - a, v, rfl, rfl, c - a - v, 2, rfl, rfl, d2 _, by show 3 ≤ sizeLine; decide, fun ri hri => ?_⟩
  have eR : HO.lst [V.int 0, V.int ((c - b + u) / 2), V.int ((c - a - v) / 2)] = .lst ([(0 : Int), D, E].map V.int) := by rw [eD, eE]; rfl
  rw [eR]
  have t3 := same_upd (o := .lst ([(0 : Int), D, E].map V.int)) hri
  refine ⟨_, rfl, _, rfl, a, b, rfl, rfl, _, rfl, a + b, c, rfl, rfl, a + b + c, 2, rfl, rfl, d2 _, S, congrArg (fun z => [V.int z]) eS, by omega, fun kn hkn => ?_⟩
  have t4 := same_upd (o := .lst (factsL S)) hkn
  refine ⟨fun σ G => ∃ l : Addr, σ = [some (.ref p1), some (.ref p2), some (.int c), some (.int a), some (.int u), some (.int b), some (.int v), some (.ref fl), some (.ref ri), some (.ref kn), some (.ref l), none, none, none] ∧ Same H G ∧ H l = none ∧ fl ≠ l ∧ ri ≠ l ∧ kn ≠ l ∧ G l = some (.lst []) ∧ G fl = some (.lst ([(A : Int), (B : Int), (C : Int)].map V.int)) ∧ G ri = some (.lst ([(0 : Int), D, E].map V.int)) ∧ G kn = some (.lst (factsL S)), ?_, fun σ H5 hM => ?_⟩
  · refine ⟨by show 0 ≤ sizeLine; decide, fun l hl => ?_⟩
    have t5 := same_upd (o := .lst []) hl
    have f4 := t4 _ _ (t3 _ _ upd_same)
    have r4 := t4 _ _ upd_same
    exact ⟨l, rfl, (((t1.trans t2).trans t3).trans t4).trans t5, (((t1.trans t2).trans t3).trans t4).free hl, ne_of_none f4 hl, ne_of_none r4 hl, ne_of_none upd_same hl, upd_same, t5 _ _ f4, t5 _ _ r4, t5 _ _ upd_same⟩
  obtain ⟨l, rfl, tA, lfree, nlf, nlr, nlk, hl5, hfl5, hri5, hkn5⟩ := hM
  refine ⟨_, rfl, ri, [0, D, E], rfl, SqL.of hri5, by show 0 < 3; decide, fun m1 hm1 hm1' => ?_⟩
  refine ⟨m1, rfl, _, rfl, fl, [(A : Int), (B : Int), (C : Int)], rfl, SqL.of hfl5, by show 0 < 3; decide, fun m2 hm2 hm2' => ?_⟩
  refine ⟨m2, 1, rfl, rfl, ?_⟩
  have m10 := hm1' 0 (by simp)
  have m1D := hm1' D (by simp)
  have m1E := hm1' E (by simp)
  have m2A := hm2' (A : Int) (by simp)
  have m2B := hm2' (B : Int) (by simp)
  have m2C := hm2' (C : Int) (by simp)
  have hm1c : m1 = 0 ∨ m1 = D ∨ m1 = E := by simpa using hm1
  have hm2c : m2 = A ∨ m2 = B ∨ m2 = C := by simpa using hm2
  have ok : ∀ k : Nat, okK A B C D E k = true ↔ -m1 ≤ k ∧ (k : Int) ≤ m2 := fun k => by
    unfold okK
    rw [decide_eq_true_eq]
    omega
  refine ⟨-m1, m2 + 1, rfl, ⟨by omega, by omega, by omega, by omega⟩, for_range (fun i σ H' => ∃ (v11 v12 v13 : Option V) (us : List Addr), σ = [some (.ref p1), some (.ref p2), some (.int c), some (.int a), some (.int u), some (.int b), some (.int v), some (.ref fl), some (.ref ri), some (.ref kn), some (.ref l), v11, v12, v13] ∧ Same H H' ∧ H' l = some (.lst (us.map V.ref)) ∧ H' fl = some (.lst ([(A : Int), (B : Int), (C : Int)].map V.int)) ∧ H' ri = some (.lst ([(0 : Int), D, E].map V.int)) ∧ H' kn = some (.lst (factsL S)) ∧ PrsAt H' us (tmL A B C D E (-m1).toNat i))
    ⟨none, none, none, [], rfl, tA, hl5, hfl5, hri5, hkn5, trivial⟩ (fun i σ H' hi hP => ?_) (fun σ H' hP => ?_)⟩
  rotate_left
  · obtain ⟨v11, v12, v13, us, rfl, sm, hll, _, _, _, hR⟩ := hP
    exact ⟨_, rfl, q l us (-m1) m2 H' sm hll (by omega) ok (by omega) hR⟩
  obtain ⟨v11, v12, v13, us, rfl, sm, hll, hfl', hri', hkn', hR⟩ := hP
  obtain ⟨kN, ekN⟩ : ∃ k : Nat, (-m1).toNat + i = k := ⟨_, rfl⟩
  have ek : -m1 + (i : Int) = (kN : Int) := by omega
  rw [ek]
  have hk := (ok kN).mpr ⟨by omega, by omega⟩
  obtain ⟨k1, k2, k3, k4, k5⟩ := of_decide_eq_true hk
  refine ⟨fun σ G => ∃ v13 : Option V, σ = [some (.ref p1), some (.ref p2), some (.int c), some (.int a), some (.int u), some (.int b), some (.int v), some (.ref fl), some (.ref ri), some (.ref kn), some (.ref l), some (.int (kN : Int)), some (.int ((foldF (fun x => (x - kN).toNat) 1 [(A : Int), (B : Int), (C : Int)] : Nat) : Int)), v13] ∧ G = H', ?_, fun σ G hM => ?_⟩
  · refine ⟨_, rfl, fl, rfl, ⟨_, SqL.of hfl'⟩, for_list (xs := [(A : Int), (B : Int), (C : Int)].map V.int) (fun j σ G => ∃ v13 : Option V, σ = [some (.ref p1), some (.ref p2), some (.int c), some (.int a), some (.int u), some (.int b), some (.int v), some (.ref fl), some (.ref ri), some (.ref kn), some (.ref l), some (.int (kN : Int)), some (.int ((foldF (fun x => (x - kN).toNat) 1 ([(A : Int), (B : Int), (C : Int)].take j) : Nat) : Int)), v13] ∧ G = H') ⟨v13, rfl, rfl⟩ (fun j σ G _ hP => ?_) (fun j x σ G hx hP => ?_) (fun σ G hP => ?_)⟩
    · obtain ⟨_, _, rfl⟩ := hP
      exact SqL.of hfl'
    · obtain ⟨v13, rfl, rfl⟩ := hP
      obtain ⟨n, hn, rfl⟩ := ints_at hx
      have nm : n = A ∨ n = B ∨ n = C := by simpa using List.mem_of_getElem? hn
      have gl : ∀ x ∈ [(A : Int), (B : Int), (C : Int)].take j, (x - (kN : Int)).toNat < 62 := fun x hx => by
        have : x = A ∨ x = B ∨ x = C := by simpa using List.mem_of_mem_take hx
        omega
      have b1 := foldF_lt (g := fun x => (x - (kN : Int)).toNat) (B := 1) (m := 1) gl (by decide)
      have b2 : foldF (fun x => (x - (kN : Int)).toNat) 1 ([(A : Int), (B : Int), (C : Int)].take j) < 2 ^ 1000 := Nat.lt_of_lt_of_le b1 (Nat.pow_le_pow_right (by decide) (by rw [List.length_take]; show 1 + 280 * min j 3 ≤ 1000; omega))
      refine ⟨_, rfl, _, rfl, _, rfl, _, rfl, n, kN, rfl, rfl, kn, _, _, _, rfl, rfl, SqL.of hkn', facts_at (by omega) (by omega), _, _, rfl, rfl, cmulw (nat_bits b2) (nat_bits (fact_lt (n - (kN : Int)).toNat (by omega))) (by decide) (by decide) (by decide), some (.int n), ?_, rfl⟩
      rw [take_atI hn, foldF_snoc, Int.natCast_mul]
      rfl
    · obtain ⟨v13, rfl, rfl⟩ := hP
      exact ⟨v13, rfl, rfl⟩
  obtain ⟨w13, rfl, eG⟩ := hM
  replace eG := eG.symm
  subst eG
  have fB : foldF (fun x => (x - (kN : Int)).toNat) 1 [(A : Int), (B : Int), (C : Int)] < 2 ^ 1000 := Nat.lt_of_lt_of_le (foldF_lt (g := fun x => (x - (kN : Int)).toNat) (B := 1) (m := 1) (fun x hx => by
    have : x = A ∨ x = B ∨ x = C := by simpa using hx
    omega) (by decide)) (Nat.pow_le_pow_right (by decide) (by show 1 + 280 * 3 ≤ 1000; decide))
  refine ⟨fun σ G => ∃ v13 : Option V, σ = [some (.ref p1), some (.ref p2), some (.int c), some (.int a), some (.int u), some (.int b), some (.int v), some (.ref fl), some (.ref ri), some (.ref kn), some (.ref l), some (.int (kN : Int)), some (.int ((botK A B C D E kN : Nat) : Int)), v13] ∧ G = H', ?_, fun σ G hM => ?_⟩
  · refine ⟨_, rfl, ri, rfl, ⟨_, SqL.of hri'⟩, for_list (xs := [(0 : Int), D, E].map V.int) (fun j σ G => ∃ v13 : Option V, σ = [some (.ref p1), some (.ref p2), some (.int c), some (.int a), some (.int u), some (.int b), some (.int v), some (.ref fl), some (.ref ri), some (.ref kn), some (.ref l), some (.int (kN : Int)), some (.int ((foldF (fun x => (x + kN).toNat) (foldF (fun x => (x - kN).toNat) 1 [(A : Int), (B : Int), (C : Int)]) ([(0 : Int), D, E].take j) : Nat) : Int)), v13] ∧ G = H') ⟨w13, rfl, rfl⟩ (fun j σ G _ hP => ?_) (fun j x σ G hx hP => ?_) (fun σ G hP => ?_)⟩
    · obtain ⟨_, _, rfl⟩ := hP
      exact SqL.of hri'
    · obtain ⟨v13, rfl, rfl⟩ := hP
      obtain ⟨n, hn, rfl⟩ := ints_at hx
      have nm : n = 0 ∨ n = D ∨ n = E := by simpa using List.mem_of_getElem? hn
      have gl : ∀ x ∈ [(0 : Int), D, E].take j, (x + (kN : Int)).toNat < 62 := fun x hx => by
        have : x = 0 ∨ x = D ∨ x = E := by simpa using List.mem_of_mem_take hx
        omega
      have b1 := foldF_lt (g := fun x => (x + (kN : Int)).toNat) gl fB
      have b2 : foldF (fun x => (x + (kN : Int)).toNat) (foldF (fun x => (x - (kN : Int)).toNat) 1 [(A : Int), (B : Int), (C : Int)]) ([(0 : Int), D, E].take j) < 2 ^ 2000 := Nat.lt_of_lt_of_le b1 (Nat.pow_le_pow_right (by decide) (by rw [List.length_take]; show 1000 + 280 * min j 3 ≤ 2000; omega))
      refine ⟨_, rfl, _, rfl, _, rfl, _, rfl, n, kN, rfl, rfl, kn, _, _, _, rfl, rfl, SqL.of hkn', facts_at (by omega) (by omega), _, _, rfl, rfl, cmulw (nat_bits b2) (nat_bits (fact_lt (n + (kN : Int)).toNat (by omega))) (by decide) (by decide) (by decide), some (.int n), ?_, rfl⟩
      rw [take_atI hn, foldF_snoc, Int.natCast_mul]
      rfl
    · obtain ⟨v13, rfl, rfl⟩ := hP
      refine ⟨v13, ?_, rfl⟩
      have e : foldF (fun x => (x + (kN : Int)).toNat) (foldF (fun x => (x - (kN : Int)).toNat) 1 [(A : Int), (B : Int), (C : Int)]) [(0 : Int), D, E] = botK A B C D E kN := by
        show 1 * factN ((A : Int) - kN).toNat * factN ((B : Int) - kN).toNat * factN ((C : Int) - kN).toNat * factN ((0 : Int) + kN).toNat * factN (D + kN).toNat * factN (E + kN).toNat = _
        unfold botK
        rw [show ((A : Int) - kN).toNat = A - kN by omega, show ((B : Int) - kN).toNat = B - kN by omega, show ((C : Int) - kN).toNat = C - kN by omega, show ((0 : Int) + kN).toNat = kN by omega, Nat.one_mul]
        simp only [Nat.mul_assoc, Nat.mul_left_comm, Nat.mul_comm]
      rw [← e]
      rfl
  clear w13
  obtain ⟨w13, rfl, eG⟩ := hM
  replace eG := eG.symm
  subst eG
  have sg : decide ((kN : Int) % 2 = 1) = decide (kN % 2 = 1) := by
    by_cases z : kN % 2 = 1
    · rw [decide_eq_true z, decide_eq_true (by omega)]
    · rw [decide_eq_false z, decide_eq_false (by omega)]
  have fin : ∀ u' : Addr, H' u' = none → ∃ (v11 v12 v13 : Option V) (us' : List Addr), [some (.ref p1), some (.ref p2), some (.int c), some (.int a), some (.int u), some (.int b), some (.int v), some (.ref fl), some (.ref ri), some (.ref kn), some (.ref l), some (.int (kN : Int)), some (.int ((botK A B C D E kN : Nat) : Int)), w13] = [some (.ref p1), some (.ref p2), some (.int c), some (.int a), some (.int u), some (.int b), some (.int v), some (.ref fl), some (.ref ri), some (.ref kn), some (.ref l), v11, v12, v13] ∧ Same H (upd (upd H' u' (.tup [.int (sgK kN), .int ((botK A B C D E kN : Nat) : Int)])) l (.lst (us.map V.ref ++ [.ref u']))) ∧
      (upd (upd H' u' (.tup [.int (sgK kN), .int ((botK A B C D E kN : Nat) : Int)])) l (.lst (us.map V.ref ++ [.ref u']))) l = some (.lst (us'.map V.ref)) ∧ (upd (upd H' u' (.tup [.int (sgK kN), .int ((botK A B C D E kN : Nat) : Int)])) l (.lst (us.map V.ref ++ [.ref u']))) fl = some (.lst ([(A : Int), (B : Int), (C : Int)].map V.int)) ∧
      (upd (upd H' u' (.tup [.int (sgK kN), .int ((botK A B C D E kN : Nat) : Int)])) l (.lst (us.map V.ref ++ [.ref u']))) ri = some (.lst ([(0 : Int), D, E].map V.int)) ∧ (upd (upd H' u' (.tup [.int (sgK kN), .int ((botK A B C D E kN : Nat) : Int)])) l (.lst (us.map V.ref ++ [.ref u']))) kn = some (.lst (factsL S)) ∧
      PrsAt (upd (upd H' u' (.tup [.int (sgK kN), .int ((botK A B C D E kN : Nat) : Int)])) l (.lst (us.map V.ref ++ [.ref u']))) us' (tmL A B C D E (-m1).toNat (i + 1)) := fun u' hu' => by
    have t6 := same_upd (o := .tup [.int (sgK kN), .int ((botK A B C D E kN : Nat) : Int)]) hu'
    refine ⟨_, _, _, us ++ [u'], rfl, ?_, ?_, ?_, ?_, ?_, ?_⟩
    · intro x y e
      rw [upd_ne (ne_of_none e lfree)]
      exact t6 _ _ (sm _ _ e)
    · rw [upd_same, List.map_append]
      rfl
    · rw [upd_ne nlf]
      exact t6 _ _ hfl'
    · rw [upd_ne nlr]
      exact t6 _ _ hri'
    · rw [upd_ne nlk]
      exact t6 _ _ hkn'
    · rw [tmL_succ, ekN]
      exact PrsAt.upd (fun x e => by rw [t6 _ _ hll] at e; cases e) (PrsAt.snoc (x := (sgK kN, ((botK A B C D E kN : Nat) : Int))) (show upd H' u' (.tup [.int (sgK kN), .int ((botK A B C D E kN : Nat) : Int)]) u' = _ from upd_same) (hR.same t6))
  have len : (us.map V.ref).length + 1 ≤ sizeLine := by
    have := hR.len
    unfold tmL at this
    rw [List.length_map, List.length_range] at this
    rw [List.length_map, sizeLine_eq]
    omega
  refine ⟨_, rfl, .inl ⟨rfl, _, SqL.of hll⟩, _, rfl, (kN : Int), rfl, _, rfl, ?_⟩
  rw [sg]
  unfold sgK at fin
  by_cases z : kN % 2 = 1
  · refine iteD1 z ?_
    rw [if_pos z] at fin
    exact ⟨1, rfl, _, rfl, by show 2 ≤ sizeLine; decide, fun u' hu' => ⟨l, _, _, rfl, rfl, same_upd hu' _ _ hll, len, fin u' hu'⟩⟩
  · refine iteD0 z ?_
    rw [if_neg z] at fin
    exact ⟨_, rfl, by show 2 ≤ sizeLine; decide, fun u' hu' => ⟨l, _, _, rfl, rfl, same_upd hu' _ _ hll, len, fin u' hu'⟩⟩
end
end TC
namespace TC
open PySem PySem.Spec PyProof.Rows L2 TCA
section
variable {K : PySem.W.Frag} {x qual : Str} {params : Arguments} {body : List Stmt} {scope : Scope} {kws : List (Str × V)} {f : Addr} {fd : FuncData} {ps : List Str}
/-- a call with keywords of a def without other defaults -/
theorem kbinds0 (F : FunD K x qual params body scope [] kws f fd) (n : Nat) (ks : List Str) (ms : List (Str × V)) (g : {α : Type} → List α → List α → List α → List α) (hk : kws ≠ []) (hms : ∀ q ∈ ms, q ∈ kws)
    (hrel : ∀ {vs mz zs : List V} {us mv ws : List Value}, Vals vs us → Vals mz mv → Vals zs ws → Vals (g vs mz zs) (g us mv ws))
    (h : ∀ (D : Addr) (doc pm : Value) (an : Option Addr) (cdv ct : Value) (us mv ws : List Value), us.length = n → mv.length = ms.length → ws.length = ks.length →
      KwChain D ((ms.map (·.1)).zip mv) (bindArgs (PySem.W.fnOf x qual params body scope .none (.ref D) doc pm an cdv ct) ⟨us, ks.zip ws⟩) (ps.zip (g us mv ws))) :
    ∃ mv : List Value, KBn K fd ps n ks (fun us ws => g us mv ws) (fun vs zs => g vs (ms.map (·.2)) zs) := by
  obtain ⟨oc, od, dV, kV, doc, pm, an, cdv, ct, osl, rfl, lk, hcd, hD, hK⟩ := F.ex
  rcases hD with ⟨_, rfl⟩ | ⟨e, _⟩
  · rcases hK with e | ⟨D, rfl, hq⟩
    · exact absurd e hk
    · obtain ⟨mv, hl, rk, hks⟩ := kwd_vals (ms := ms) fun q hm => hq q (hms q hm)
      refine ⟨mv, ⟨fun s us ws X l1 l2 => ?_, fun r1 r2 => hrel r1 rk r2⟩⟩
      exact BindsTo.of_looks fun M => KwChain.looks X hks (h D doc pm an cdv ct us mv ws l1 hl l2)
  · exact absurd rfl e
end
theorem Vals.rev : ∀ {xs : List V} {us : List Value}, Vals xs us → Vals xs.reverse us.reverse
  | _, _, .nil => .nil
  | _, _, .cons r t => by
    rw [List.reverse_cons, List.reverse_cons]
    exact (Vals.rev t).append (.cons r .nil)
section
variable {K : PySem.W.Frag} {f : Addr} {fd : FuncData}
theorem bE0 (F : FnE K f fd) : ∃ ds, Vals [.int 1, .int 1] ds ∧ L2.Binds K fd psE ds :=
  F.binds0 1 (by intro z; cases z) rfl fun D doc pm an cdv ct us ks h1 h2 => match us, ks, h1, h2 with
    | [_], [_, _], _, _ => ⟨_, _, _, _, _, _, rfl, rfl, ⟨_, _, _, _, _, _, rfl, rfl, rfl⟩⟩
theorem bEbr (F : FnE K f fd) : ∃ mv : List Value, KBn K fd psE 1 ["bottom", "root"] (fun us ws => us ++ ws) (fun vs zs => vs ++ zs) := by
  obtain ⟨mv, h⟩ := kbinds0 F (ps := psE) 1 ["bottom", "root"] [] (fun us _ ws => us ++ ws) (by intro z; cases z) (fun q hq => by cases hq) (fun a _ c => a.append c) fun D doc pm an cdv ct us mv ws h1 h2 h3 => match us, mv, ws, h1, h2, h3 with
    | [_], [], [_, _], _, _, _ => rfl
  exact ⟨mv, h⟩
theorem bErb (F : FnE K f fd) : ∃ mv : List Value, KBn K fd psE 1 ["root", "bottom"] (fun us ws => us ++ ws.reverse) (fun vs zs => vs ++ zs.reverse) := by
  obtain ⟨mv, h⟩ := kbinds0 F (ps := psE) 1 ["root", "bottom"] [] (fun us _ ws => us ++ ws.reverse) (by intro z; cases z) (fun q hq => by cases hq) (fun a _ c => a.append (Vals.rev c)) fun D doc pm an cdv ct us mv ws h1 h2 h3 => match us, mv, ws, h1, h2, h3 with
    | [_], [], [_, _], _, _, _ => rfl
  exact ⟨mv, h⟩
end
theorem val_one (r s : Int) (q : Rat) : TCR.val [(r, q)] s = if s = r then q else 0 := by
  show (if r = s then q else 0) = _
  by_cases h : s = r
  · rw [if_pos h, if_pos h.symm]
  · rw [if_neg h, if_neg fun z => h z.symm]
theorem val_oneL (r t b s : Int) : TCR.val (oneL r t b) s = if s = r then Rat.divInt t b else 0 := by
  unfold oneL
  by_cases h : t = 0
  · rw [if_pos h, h, divInt_zero]
    split <;> rfl
  · rw [if_neg h, val_one]
theorem good_oneL {A : Nat} {r t b : Int} (hb : b ≠ 0) (h1 : t.natAbs < 2 ^ A) (h2 : b.natAbs < 2 ^ A) : Good A (oneL r t b) := by
  unfold oneL
  by_cases h : t = 0
  · rw [if_pos h]
    exact Good.nil
  · rw [if_neg h]
    exact ⟨TCR.canon_one (divInt_ne hb h), fun x hx => by
      rw [List.mem_singleton.mp hx]
      exact TCR.Sz.divInt hb h1 h2⟩
theorem len_oneL (r t b : Int) : (oneL r t b).length ≤ 1 := by
  unfold oneL
  split
  · exact Nat.zero_le _
  · exact Nat.le_refl _
theorem len_ex (t b r : Int) : (exL t b r).length ≤ 1 := len_oneL ..
theorem canon_oneL {r t b : Int} (hb : b ≠ 0) : TCR.Canon (oneL r t b) := by
  unfold oneL
  by_cases h : t = 0
  · rw [if_pos h]
    exact TCR.canon_nil
  · rw [if_neg h]
    exact TCR.canon_one (divInt_ne hb h)
section
variable {P : Program} {w : World} {K : PySem.W.Frag} {mg : Str → Option Value} {base : Heap} {f : Addr} {fd : FuncData} {C fI fQ : Addr}
/-! ### exact -/
def spExact (C : Addr) : Sp := fun vs H Q _ => ∃ (t b r : Int) (A : Nat), vs = [.int t, .int b, .int r] ∧ b ≠ 0 ∧ b.natAbs < 2 ^ A ∧ 0 < A ∧ A ≤ 8000 ∧ RootOk r ∧ ∀ x H', Same H H' → H x = none → NumAt C H' x (exL t b r) → Q (.ref x) H'
theorem scExact : FnScope ["top", "bottom", "root", "outside", "inside", "rest"] ["top", "bottom", "root"] (defScope sExact) := ⟨rfl, rfl, rfl, by decide +kernel, rfl, by decide +kernel, by decide +kernel⟩
theorem ok_exact {fW fSq fLw : Addr} {fdW fdSq fdLw : FuncData} {tH : Tok} (F : FnE K f fd) (GW : FnOk P w K mg base CX0 1 fW fdW ["thing"] spWhole) (bW : L2.Binds K fdW ["thing"] []) (kW : PySem.W.keepIn K (.ref fW) = true) (gW : mg "is_whole" = some (.ref fW))
    (GSq : FnOk P w K mg base CX0 1 fSq fdSq ["number"] spSquares) (bSq : L2.Binds K fdSq ["number"] []) (kSq : PySem.W.keepIn K (.ref fSq) = true) (gSq : mg "squares_out" = some (.ref fSq))
    (GLw : FnOk P w K mg base CX0 3 fLw fdLw ["tops", "bottom"] (spLowered C)) (bLw : L2.Binds K fdLw ["tops", "bottom"] []) (kLw : PySem.W.keepIn K (.ref fLw) = true) (gLw : mg "lowered" = some (.ref fLw))
    (gH : mg "HIGHEST_ROOT" = some (.int 1000000 tH)) : FnOk P w K mg base CX0 4 f fd psE (spExact C) := by
  refine F.ok scExact (fun vs H Q E h => ?_) (fun cdv A outer s H vs Q E hr h => ?_)
  · obtain ⟨t, b, r, _, rfl, _⟩ := h
    rfl
  · obtain ⟨t, b, r, A8, rfl, hb, hz, A0, A88, ⟨R0, R1, a1, a2, a3⟩, q⟩ := h
    have hr1 := hr.mono (j := 1) (by decide)
    refine ⟨_, PSs.nox (pss_cons (ps_if (pt_not (PW.pt (pw_and (pt_val (pe_call GW hr1 (by rfl) gW kW bW .nil pass0 (pa_cons (pv 0) pa_nil))) (pw_and (pt_val (pe_call GW hr1 (by rfl) gW kW bW .nil pass0 (pa_cons (pv 1) pa_nil))) (pw_and (pt_val (pe_call GW hr1 (by rfl) gW kW bW .nil pass0 (pa_cons (pv 2) pa_nil)))
        (pw_and1 (pt_chain op_le op_le pe_int (pv 2) (pe_glob (v := .int 1000000) (by rfl) gH ⟨_, rfl⟩)))))))) pss_never pss_nil)
      (pss_cons (ps_asg (pe_call GSq hr1 (by rfl) gSq kSq bSq .nil pass0 (pa_cons (pv 2) pa_nil)) (pg_tup rfl (pgs_cons (pg_name (i := 3) scExact.nd rfl (.inl rfl)) (pgs_cons (pg_name (i := 4) scExact.nd rfl (.inl rfl)) (pgs_cons (pg_name (i := 5) scExact.nd rfl (.inl rfl)) pgs_nil)))))
      (pss_cons (ps_if (pt_cmpR op_ne (pv 5) pe_int (nomark _)) pss_never pss_nil)
      (pss_cons (ps_if (pt_cmpR op_eq (pv 1) pe_int (nomark _)) pss_never pss_nil)
      (pss_one (ps_ret (pe_call GLw hr (by rfl) gLw kLw bLw .nil pass0 (pa_cons (pe_disp (pps_cons (pv 4) (pe_op op_mul (pv 0) (pv 3)) pps_nil) rfl rfl (by intro z; cases z) (by decide)) (pa_cons (pv 1) pa_nil))))))))), ?_⟩
    refine ⟨_, rfl, t, rfl, true, rfl, iteT ?_⟩
    refine ⟨_, rfl, b, rfl, true, rfl, iteT ?_⟩
    refine ⟨_, rfl, r, rfl, true, rfl, iteT ?_⟩
    refine ⟨_, rfl, 0, r, rfl, rfl, _, rfl, iteD1 R0 ?_⟩
    refine ⟨r, 1000000, rfl, rfl, _, rfl, iteNS R1 ?_⟩
    refine ⟨_, rfl, r, rfl, R0, R1, fun p H1 sm1 hp e1 => ?_⟩
    refine ⟨p, _, rfl, SqT.of e1, rfl, _, _, rfl, _, _, rfl, _, _, rfl, rfl, ?_⟩
    refine ⟨_, rfl, rfl, _, rfl, iteNS (congrArg V.int a1) ?_⟩
    refine ⟨_, rfl, rfl, _, rfl, iteD0 (ine hb) ?_⟩
    intro d hd
    refine ⟨_, rfl, _, rfl, _, rfl, t, _, rfl, rfl, .inr ⟨by omega, by omega⟩, upd_same, [(Sum.inl _, _)], rfl, by show 1 ≤ 15; decide, ?_⟩
    rw [upd_upd]
    have sm2 := same_upd (o := .dK (mergeK [] [((Sum.inl (TCM.sqOut r).2.1 : Key), V.int (t * (TCM.sqOut r).1))])) hd
    have hI : IntD (upd H1 d (.dK (mergeK [] [((Sum.inl (TCM.sqOut r).2.1 : Key), V.int (t * (TCM.sqOut r).1))]))) d [(TCM.sqOut r).2.1] (fun s => if s = (TCM.sqOut r).2.1 then t * (TCM.sqOut r).1 else 0) := by
      refine ⟨_, upd_same, rfl, fun s hs => ?_, by simp, fun s hs => if_neg fun z => hs (List.mem_singleton.mpr z)⟩
      rw [List.mem_singleton.mp hs]
      show valV [((Sum.inl (TCM.sqOut r).2.1 : Key), V.int (t * (TCM.sqOut r).1))] (Sum.inl (TCM.sqOut r).2.1) = some (V.int (if (TCM.sqOut r).2.1 = (TCM.sqOut r).2.1 then t * (TCM.sqOut r).1 else 0))
      rw [if_pos rfl]
      exact valV_pos rfl
    refine ⟨_, rfl, d, _, _, b, A8, rfl, hI, hb, hz, A0, A88, by show 1 ≤ 5000; decide, fun x N H' sm3 hx hN cN vN lN => ?_⟩
    have eN : N = exL t b r := TCR.canon_eq cN (canon_oneL hb) fun s => by
      rw [vN]
      unfold exL
      rw [val_oneL]
      split
      · rfl
      · exact divInt_zero b
    rw [eN] at hN
    exact q x H' ((sm1.trans sm2).trans sm3) ((sm1.trans sm2).free hx) hN
end
end TC
namespace TCX
set_option exponentiation.threshold 20000
theorem powP_le {e g : Nat → Nat} : ∀ {l : List Nat}, (∀ p ∈ l, IsP p) → (∀ p ∈ l, e p ≤ g p) → powP e l ≤ powP g l
  | [], _, _ => Nat.le_refl _
  | p :: l, hp, h => by
    have p1 := (hp p (by simp)).1
    exact Nat.mul_le_mul (Nat.pow_le_pow_right (by omega) (h p (by simp))) (powP_le (fun r hr => hp r (List.mem_cons_of_mem _ hr)) fun r hr => h r (List.mem_cons_of_mem _ hr))
theorem topE_le {above below : List Nat} (ha : ∀ n ∈ above, n < 123) : topE above below ≤ prodF above := by
  rw [prodF_leg ha]
  refine powP_le pr30_p fun p _ => ?_
  have e : expE above below p = (sumL above p : Int) - (sumL below p : Int) := rfl
  omega
theorem botE_le {above below : List Nat} (hb : ∀ n ∈ below, n < 123) : botE above below ≤ prodF below := by
  rw [prodF_leg hb]
  refine powP_le pr30_p fun p _ => ?_
  have e : expE above below p = (sumL above p : Int) - (sumL below p : Int) := rfl
  omega
theorem prodF_lt : ∀ {l : List Nat}, (∀ n ∈ l, n < 62) → prodF l < 2 ^ (280 * l.length + 1)
  | [], _ => by decide
  | n :: l, h => by
    have h1 := prodF_lt (l := l) fun m hm => h m (List.mem_cons_of_mem _ hm)
    show factN n * prodF l < 2 ^ (280 * (l.length + 1) + 1)
    rw [show 280 * (l.length + 1) + 1 = 280 + (280 * l.length + 1) by omega, Nat.pow_add]
    exact Nat.mul_lt_mul'' (fact_lt n (h n (by simp))) h1
theorem rootE_lt (above below : List Nat) : rootE above below < 2 ^ 200 := by
  have h1 : rootE above below ≤ powP (fun _ => 1) pr30 := by
    unfold rootE
    rw [pick_pow]
    exact powP_le pr30_p fun p _ => by split <;> omega
  exact Nat.lt_of_le_of_lt h1 (by decide +kernel)
theorem tmK_le (A B C : Nat) (D E : Int) (k : Nat) : (tmK A B C D E k).natAbs ≤ comK A B C D E := by
  unfold tmK
  split
  · rw [Int.natAbs_mul, Int.natAbs_natCast]
    have : (sgK k).natAbs = 1 := by
      unfold sgK
      split <;> rfl
    rw [this, Nat.one_mul]
    exact Nat.div_le_self _ _
  · exact Nat.zero_le _
theorem sumK_le {f : Nat → Int} {M : Nat} (h : ∀ i, (f i).natAbs ≤ M) : ∀ n, (sumK f n).natAbs ≤ n * M
  | 0 => Nat.zero_le _
  | n + 1 => by
    have h1 := sumK_le h n
    have h2 := h n
    rw [sumK_succ, Nat.add_mul, Nat.one_mul]
    omega
theorem comK_lt {A B C : Nat} {D E : Int} (h1 : A < 62) (h2 : B + D < 62) (h3 : C + E < 62) : comK A B C D E < 2 ^ 840 := by
  unfold comK
  have a1 := fact_lt A h1
  have a2 := fact_lt (B + D).toNat (by omega)
  have a3 := fact_lt (C + E).toNat (by omega)
  have z := Nat.mul_lt_mul'' (Nat.mul_lt_mul'' a1 a2) a3
  rw [← Nat.pow_add, ← Nat.pow_add] at z
  exact z
end TCX
namespace TC
set_option exponentiation.threshold 20000
open PySem PySem.Spec PyProof.Rows L2 TCX
def oneQ (r : Int) (q : Rat) : List Part := if q = 0 then [] else [(r, q)]
theorem val_oneQ (r : Int) (q : Rat) (s : Int) : TCR.val (oneQ r q) s = if s = r then q else 0 := by
  unfold oneQ
  by_cases h : q = 0
  · rw [if_pos h, h]
    split <;> rfl
  · rw [if_neg h, val_one]
theorem canon_oneQ (r : Int) (q : Rat) : TCR.Canon (oneQ r q) := by
  unfold oneQ
  split
  · exact TCR.canon_nil
  · exact TCR.canon_one (by assumption)
def jA (a b c : Int) : Nat := ((a + b - c) / 2).toNat
def jB (a u : Int) : Nat := ((a - u) / 2).toNat
def jC (b v : Int) : Nat := ((b + v) / 2).toNat
def jD (b u c : Int) : Int := (c - b + u) / 2
def jE (a v c : Int) : Int := (c - a - v) / 2
def jAb (a u b v c w : Int) : List Nat := [(c + 1).toNat, ((a + u) / 2).toNat, ((a - u) / 2).toNat, ((b + v) / 2).toNat, ((b - v) / 2).toNat, ((c + w) / 2).toNat, ((c - w) / 2).toNat]
def jBe (a b c : Int) : List Nat := [c.toNat, ((a + b + c) / 2 + 1).toNat, ((a + b - c) / 2).toNat, ((a - b + c) / 2).toNat, ((b - a + c) / 2).toNat]
def jT (a u b v c : Int) : Nat → Int := tmK (jA a b c) (jB a u) (jC b v) (jD b u c) (jE a v c)
def jCom (a u b v c : Int) : Nat := comK (jA a b c) (jB a u) (jC b v) (jD b u c) (jE a v c)
def jSum (a u b v c : Int) : Int := sumK (jT a u b v c) (jA a b c + 1)
def JoinP (a b c u v w : Int) : Prop := canB a b c = true ∧ u + v = w
instance (a b c u v w : Int) : Decidable (JoinP a b c u v w) := inferInstanceAs (Decidable (_ ∧ _))
def joinL (a u b v c w : Int) : List Part := if JoinP a b c u v w then oneQ ((rootE (jAb a u b v c w) (jBe a b c) : Nat) : Int) (Rat.divInt (jSum a u b v c) 1 * Rat.divInt ((topE (jAb a u b v c w) (jBe a b c) : Nat) : Int) ((botE (jAb a u b v c w) (jBe a b c) : Nat) : Int)) else []
theorem canon_joinL (a u b v c w : Int) : TCR.Canon (joinL a u b v c w) := by
  unfold joinL
  split
  · exact canon_oneQ _ _
  · exact TCR.canon_nil
section
variable {a u b v c w : Int}
theorem tmp_of (h1 : PairP a u) (h2 : PairP b v) (h3 : PairP c w) (j : JoinP a b c u v w) : TmP a u b v c (jA a b c) (jB a u) (jC b v) (jD b u c) (jE a v c) ((a + b + c) / 2).toNat := by
  obtain ⟨a0, a1, a2, a3, a4⟩ := h1
  obtain ⟨b0, b1, b2, b3, b4⟩ := h2
  obtain ⟨c0, c1, c2, c3, c4⟩ := h3
  obtain ⟨k1, k2, k3, k4⟩ := canB_iff.mp j.1
  have k5 := j.2
  unfold jA jB jC jD jE
  refine ⟨by omega, by omega, by omega, rfl, rfl, by omega, by omega, by omega, by omega, by omega, by omega, by omega⟩
theorem jAb_lt (h1 : PairP a u) (h2 : PairP b v) (h3 : PairP c w) : ∀ n ∈ jAb a u b v c w, n < 62 := by
  obtain ⟨a0, a1, a2, a3, a4⟩ := h1
  obtain ⟨b0, b1, b2, b3, b4⟩ := h2
  obtain ⟨c0, c1, c2, c3, c4⟩ := h3
  intro n hn
  unfold jAb at hn
  simp only [List.mem_cons, List.not_mem_nil, or_false] at hn
  omega
theorem jBe_lt (h1 : PairP a u) (h2 : PairP b v) (h3 : PairP c w) : ∀ n ∈ jBe a b c, n < 62 := by
  obtain ⟨a0, a1, a2, a3, a4⟩ := h1
  obtain ⟨b0, b1, b2, b3, b4⟩ := h2
  obtain ⟨c0, c1, c2, c3, c4⟩ := h3
  intro n hn
  unfold jBe at hn
  simp only [List.mem_cons, List.not_mem_nil, or_false] at hn
  omega
theorem jSum_lt (h1 : PairP a u) (h2 : PairP b v) (h3 : PairP c w) (j : JoinP a b c u v w) : (jSum a u b v c).natAbs < 2 ^ 900 := by
  have T := tmp_of h1 h2 h3 j
  have s1 := T.s1
  have cl := comK_lt (A := jA a b c) (B := jB a u) (C := jC b v) (D := jD b u c) (E := jE a v c) (by have := T.lA; omega) (by have := T.lD; omega) (by have := T.lE; omega)
  have z := sumK_le (f := jT a u b v c) (tmK_le _ _ _ _ _) (jA a b c + 1)
  refine Nat.lt_of_le_of_lt z ?_
  have y : jA a b c + 1 < 2 ^ 60 := Nat.lt_of_le_of_lt (show _ ≤ 62 by have := T.lA; omega) (by decide)
  have x := Nat.mul_lt_mul'' y cl
  rw [← Nat.pow_add] at x
  exact x
end
theorem root_ok1 : RootOk 1 := by
  unfold RootOk
  decide +kernel
theorem exL_one (t : Int) : exL t 1 1 = oneL 1 t 1 := by
  unfold exL
  rw [show TCM.sqOut 1 = (1, 1, 1) by decide +kernel, Int.mul_one]
theorem fit_abs {r t b : Nat} {A R : Nat} (r0 : 0 < r) (t0 : 0 < t) (b0 : 0 < b) (cp : Nat.Coprime t b) (tl : t < 2 ^ A) (rl : r < 2 ^ R) : Fit b A R [((r : Int), Rat.divInt (t : Int) (b : Int))] := by
  obtain ⟨c1, c2⟩ := rat_cop b0 cp
  refine ⟨TCR.canon_one (divInt_ne (by omega) (by omega)), fun x hx => ?_, fun x hx => ?_, fun x hx => ?_⟩
  · rw [List.mem_singleton.mp hx]
    show (Rat.divInt (t : Int) (b : Int)).den ∣ b
    rw [c2]
    exact Nat.dvd_refl _
  · rw [List.mem_singleton.mp hx]
    show (Rat.divInt (t : Int) (b : Int)).num.natAbs < 2 ^ A
    rw [c1, Int.natAbs_natCast]
    exact tl
  · rw [List.mem_singleton.mp hx]
    show 0 < (r : Int) ∧ (r : Int).natAbs < 2 ^ R
    exact ⟨by omega, by rw [Int.natAbs_natCast]; exact rl⟩
theorem fit_rootL {above below : List Nat} (la : ∀ n ∈ above, n < 62) (hl : above.length ≤ 7) : Fit (botE above below) 2000 200 (rootL above below) := by
  refine fit_abs (rootE_sqF above below).pos (topE_pos above below) (botE_pos above below) (topE_cop above below) ?_ (rootE_lt above below)
  exact Nat.lt_of_le_of_lt (topE_le fun n hn => by have := la n hn; omega) (Nat.lt_of_lt_of_le (prodF_lt la) (Nat.pow_le_pow_right (by decide) (by omega)))
theorem botE_lt {a u b v c w : Int} (h1 : PairP a u) (h2 : PairP b v) (h3 : PairP c w) : botE (jAb a u b v c w) (jBe a b c) < 2 ^ 1500 := by
  have lb := jBe_lt h1 h2 h3
  exact Nat.lt_of_le_of_lt (botE_le fun n hn => by have := lb n hn; omega) (Nat.lt_of_lt_of_le (prodF_lt lb) (Nat.pow_le_pow_right (by decide) (by rw [show (jBe a b c).length = 5 from rfl]; decide)))
theorem fit_one {t : Int} {A R : Nat} (ht : t.natAbs < 2 ^ A) (R0 : 1 < 2 ^ R) : Fit 1 A R (exL t 1 1) := by
  rw [exL_one]
  refine ⟨canon_oneL (by decide), ?_, ?_, ?_⟩ <;> unfold oneL <;> intro x hx <;> split at hx
  · cases hx
  · rw [List.mem_singleton.mp hx]
    exact den_divInt (c := 1) (by decide)
  · cases hx
  · rw [List.mem_singleton.mp hx]
    show (Rat.divInt t 1).num.natAbs < _
    have := (TCM.low_abs t 1 (by decide)).1
    rw [TCR.low_rat t 1 (by decide)] at this
    exact Nat.lt_of_le_of_lt this ht
  · cases hx
  · rw [List.mem_singleton.mp hx]
    exact ⟨by show (0 : Int) < 1; decide, R0⟩
/-- a root times a whole number -/
theorem times_one {r t : Int} {q : Rat} (hr : 0 < r) (hq : q ≠ 0) {N : List Part} (cN : TCR.Canon N) (hv : ∀ u, TCR.val N u = prodG ([((r, q) : Part)].map (·.1)) ((exL t 1 1).map (·.1)) (TCR.val [(r, q)]) (TCR.val (exL t 1 1)) u) : N = oneQ r (Rat.divInt t 1 * q) := by
  refine TCR.canon_eq cN (canon_oneQ _ _) fun u => ?_
  rw [hv u, val_oneQ, exL_one]
  unfold oneL
  by_cases ht : t = 0
  · rw [if_pos ht, ht, divInt_zero, prodG_zero _ _ _ (TCR.val []) u fun s => rfl]
    split <;> grind
  · rw [if_neg ht]
    have e : TCR.val [((1, Rat.divInt t 1) : Part)] = fun s => if s = 1 then Rat.divInt t 1 else 0 := funext fun s => val_one _ _ _
    rw [e]
    show prodG [r] [1] (TCR.val [(r, q)]) _ u = _
    rw [prodG_one (Rat.divInt t 1) ⟨by simp, fun s hs => ?_⟩ (fun s hs => by rw [List.mem_singleton.mp hs]; exact hr) u, val_one]
    · split <;> grind
    · rw [val_one] at hs
      exact List.mem_singleton.mpr (Classical.byContradiction fun z => hs (if_neg z))
end TC
namespace TC
set_option exponentiation.threshold 20000
open PySem PySem.Spec PyProof.Rows L2 TCX
theorem com_eq {a u b v c w : Int} (h1 : PairP a u) (h2 : PairP b v) (h3 : PairP c w) (j : JoinP a b c u v w) : jCom a u b v c = factN ((a + b - c) / 2).toNat * factN ((a - b + c) / 2).toNat * factN ((b - a + c) / 2).toNat := by
  obtain ⟨a0, a1, a2, a3, a4⟩ := h1
  obtain ⟨b0, b1, b2, b3, b4⟩ := h2
  obtain ⟨c0, c1, c2, c3, c4⟩ := h3
  obtain ⟨k1, k2, k3, k4⟩ := canB_iff.mp j.1
  have k5 := j.2
  unfold jCom comK jA jB jC jD jE
  have e1 : ((((a - u) / 2).toNat : Int) + (c - b + u) / 2).toNat = ((a - b + c) / 2).toNat := by omega
  have e2 : ((((b + v) / 2).toNat : Int) + (c - a - v) / 2).toNat = ((b - a + c) / 2).toNat := by omega
  rw [e1, e2]
/-- the terms, summed -/
theorem tm_sum {A B C : Nat} {D E : Int} {lo n : Nat} (ok : ∀ i, i < n → okK A B C D E (lo + i) = true) : ((tmL A B C D E lo n).map fun x => x.1 * (((comK A B C D E : Nat) : Int) / x.2)).sum = sumK (fun i => tmK A B C D E (lo + i)) n := by
  induction n with
  | zero => rfl
  | succ n ih =>
    rw [tmL_succ, List.map_append, List.sum_append, ih fun i hi => ok i (by omega), sumK_succ]
    show _ + (sgK (lo + n) * (((comK A B C D E : Nat) : Int) / ((botK A B C D E (lo + n) : Nat) : Int)) + 0) = _
    unfold tmK
    rw [if_pos (ok n (by omega)), ← Int.natCast_ediv]
    omega
section
variable {P : Program} {w : World} {K : PySem.W.Frag} {mg : Str → Option Value} {base : Heap} {f : Addr} {fd : FuncData} {C fI fQ : Addr}
/-! ### joined_number -/
def spJoinedN (C : Addr) : Sp := fun vs H Q _ => ∃ (p1 p2 p3 : Addr) (a u b v c w : Int), vs = [.ref p1, .ref p2, .ref p3] ∧ H p1 = some (pairO (a, u)) ∧ H p2 = some (pairO (b, v)) ∧ H p3 = some (pairO (c, w)) ∧ PairP a u ∧ PairP b v ∧ PairP c w ∧
  ∀ x H', Same H H' → H x = none → NumAt C H' x (joinL a u b v c w) → Q (.ref x) H'
abbrev nJoinedN : List Str := ["one", "other", "to", "a", "u", "b", "v", "c", "w", "reaches", "heights", "known", "common", "whole", "top", "bottom", "root"]
theorem scJoinedN : FnScope nJoinedN ["one", "other", "to"] (defScope sJoinedN) := ⟨rfl, rfl, rfl, by decide +kernel, rfl, by decide +kernel, by decide +kernel⟩
set_option maxHeartbeats 0 in
theorem ok_joinedN {fE fC fA fT fR fM : Addr} {fdE fdC fdA fdT fdR fdM : FuncData} (F : FnP K "joined_number" sJoinedN f fd) (FE : FnE K fE fdE) (GE : FnOk P w K mg base CX0 4 fE fdE psE (spExact C)) (gE : mg "exact" = some (.ref fE))
    (GC : FnOk P w K mg base CX0 2 fC fdC ["one", "other", "third"] spCanJoin) (bC : L2.Binds K fdC ["one", "other", "third"] []) (kC : PySem.W.keepIn K (.ref fC) = true) (gC : mg "can_join" = some (.ref fC))
    (GA : FnOk P w K mg base CX0 1 fA fdA ["high"] spFacts) (bA : L2.Binds K fdA ["high"] []) (kA : PySem.W.keepIn K (.ref fA) = true) (gA : mg "factorials" = some (.ref fA))
    (GT : FnOk P w K mg base CX0 2 fT fdT ["one", "other", "c"] spTerms) (bT : L2.Binds K fdT ["one", "other", "c"] []) (kT : PySem.W.keepIn K (.ref fT) = true) (gT : mg "terms_of_joined" = some (.ref fT))
    (GR : FnOk P w K mg base CX0 3 fR fdR ["above", "below"] (spRootF C)) (bR : L2.Binds K fdR ["above", "below"] []) (kR : PySem.W.keepIn K (.ref fR) = true) (gR : mg "root_of_factorials" = some (.ref fR))
    (GM : FnOk P w K mg base CX0 4 fM fdM ["one", "other"] (spTimes C)) (bM : L2.Binds K fdM ["one", "other"] []) (kM : PySem.W.keepIn K (.ref fM) = true) (gM : mg "times" = some (.ref fM)) (gmax : mg "max" = none) (gsum : mg "sum" = none) :
    FnOk P w K mg base CX0 5 f fd ["one", "other", "to"] (spJoinedN C) := by
  obtain ⟨dsE, vE, bE⟩ := bE0 FE
  refine F.ok scJoinedN (fun vs H Q E h => ?_) (fun cdv Ar outer s H vs Q E' hr h => ?_)
  · obtain ⟨_, _, _, _, _, _, _, _, _, rfl, _⟩ := h
    rfl
  obtain ⟨p1, p2, p3, a, u, b, v, c, w, rfl, hp1, hp2, hp3, P1, P2, P3, q⟩ := h
  have hr1 := hr.mono (j := 1) (by decide)
  have hr2 := hr.mono (j := 2) (by decide)
  have hr3 := hr.mono (j := 3) (by decide)
  refine ⟨_, PSs.nox (C8.pss_cut (ps_asg (pe_tup (pa_cons (pv 0) (pa_cons (pv 1) (pa_cons (pv 2) pa_nil)))) (pg_tup rfl (pgs_cons (pg_tup rfl (pgs_cons (pg_name (i := 3) scJoinedN.nd rfl (.inl rfl)) (pgs_cons (pg_name (i := 4) scJoinedN.nd rfl (.inl rfl)) pgs_nil))) (pgs_cons (pg_tup rfl (pgs_cons (pg_name (i := 5) scJoinedN.nd rfl (.inl rfl)) (pgs_cons (pg_name (i := 6) scJoinedN.nd rfl (.inl rfl)) pgs_nil))) (pgs_cons (pg_tup rfl (pgs_cons (pg_name (i := 7) scJoinedN.nd rfl (.inl rfl)) (pgs_cons (pg_name (i := 8) scJoinedN.nd rfl (.inl rfl)) pgs_nil))) pgs_nil)))))
      (C8.pss_cut (ps_if (PW.pt (pw_or (pt_not (pt_val (pe_call GC hr2 (by rfl) gC kC bC .nil pass0 (pa_cons (pv 3) (pa_cons (pv 5) (pa_cons (pv 7) pa_nil)))))) (pw_or1 (pt_cmpR op_ne (pe_op op_add (pv 4) (pv 6)) (pv 8) (nomark _))))) (pss_one (ps_ret (pe_call GE hr (by rfl) gE FE.kp bE vE pass0 (pa_cons pe_int pa_nil)))) pss_nil)
      (C8.pss_cut (ps_set (i := 9) scJoinedN.nd rfl (.inl rfl) (pe_lst (pa_cons (pe_op op_fdiv (pe_op op_sub (pe_op op_add (pv 3) (pv 5)) (pv 7)) pe_int) (pa_cons (pe_op op_fdiv (pe_op op_add (pe_op op_sub (pv 3) (pv 5)) (pv 7)) pe_int) (pa_cons (pe_op op_fdiv (pe_op op_add (pe_op op_sub (pv 5) (pv 3)) (pv 7)) pe_int) pa_nil)))))
      (C8.pss_cut (ps_set (i := 10) scJoinedN.nd rfl (.inl rfl) (pe_lst (pa_cons (pe_op op_fdiv (pe_op op_add (pv 3) (pv 4)) pe_int) (pa_cons (pe_op op_fdiv (pe_op op_sub (pv 3) (pv 4)) pe_int) (pa_cons (pe_op op_fdiv (pe_op op_add (pv 5) (pv 6)) pe_int) (pa_cons (pe_op op_fdiv (pe_op op_sub (pv 5) (pv 6)) pe_int) (pa_cons (pe_op op_fdiv (pe_op op_add (pv 7) (pv 8)) pe_int) (pa_cons (pe_op op_fdiv (pe_op op_sub (pv 7) (pv 8)) pe_int) pa_nil))))))))
      (C8.pss_cut (ps_set (i := 11) scJoinedN.nd rfl (.inl rfl) (pe_call GA hr1 (by rfl) gA kA bA .nil pass0 (pa_cons (pe_callB (cr_max rfl) (by rfl) gmax (by decide +kernel) (pa_cons (pv 9) pa_nil)) pa_nil)))
      (C8.pss_cut (ps_set (i := 12) scJoinedN.nd rfl (.inr rfl) (pe_op op_mulW (pe_op op_mulW (pe_ix ix_list (pv 11) (pe_ix ix_list (pv 9) pe_int (fun _ _ => rfl)) (fun _ _ => rfl)) (pe_ix ix_list (pv 11) (pe_ix ix_list (pv 9) pe_int (fun _ _ => rfl)) (fun _ _ => rfl))) (pe_ix ix_list (pv 11) (pe_ix ix_list (pv 9) pe_int (fun _ _ => rfl)) (fun _ _ => rfl))))
      (C8.pss_cut (ps_set (i := 13) scJoinedN.nd rfl (.inl rfl) (pe_callB (cr_sum rfl) (by rfl) gsum (by decide +kernel) (pa_cons (pe_lc (own := [("top", 14), ("bottom", 15)]) (g := gTup K 2 (gCons (gName 14) (gCons (gName 15) gNil))) (tt := tYes) (te := tOp (rI CMul fun i j => .int (i * j)) (tVar 14) (tOp (rI CDivW fun i j => .int (i / j)) (tVar 12) (tVar 15))) (by rfl) scJoinedN.nd (pi_list (pe_call GT hr2 (by rfl) gT kT bT .nil pass0 (pa_cons (pv 0) (pa_cons (pv 1) (pa_cons (pv 7) pa_nil)))))
          (blkOk_by (N := nJoinedN) (sc := defScope sJoinedN) (by decide +kernel)) (fun _ _ _ _ _ => pg_tup rfl (pgs_cons (pg_name (i := 14) scJoinedN.nd rfl (.inl rfl)) (pgs_cons (pg_name (i := 15) scJoinedN.nd rfl (.inl rfl)) pgs_nil))) (fun _ _ _ _ _ => pts_nil) (fun _ _ _ _ _ => (pe_op op_mul (pv 14) (pe_op op_fdivW (pv 12) (pv 15))))) pa_nil)))
      (pss_cons (ps_set (i := 16) scJoinedN.nd rfl (.inl rfl) (pe_call GR hr3 (by rfl) gR kR bR .nil pass0 (pa_cons (pe_lst (pa_cons (pe_op op_add (pv 7) pe_int) (StX.pa_star (pv 10) pa_nil))) (pa_cons (pe_lst (pa_cons (pv 7) (pa_cons (pe_op op_add (pe_op op_fdiv (pe_op op_add (pe_op op_add (pv 3) (pv 5)) (pv 7)) pe_int) pe_int) (StX.pa_star (pv 9) pa_nil)))) pa_nil))))
      (pss_one (ps_ret (pe_call GM hr (by rfl) gM kM bM .nil pass0 (pa_cons (pv 16) (pa_cons (pe_call GE hr (by rfl) gE FE.kp bE vE pass0 (pa_cons (pv 13) pa_nil)) pa_nil))))))))))))), ?_⟩
  have d2 : ∀ z : Int, CDiv z 2 := fun _ => ⟨by decide, by decide⟩
  refine ⟨fun σ H' => σ = [some (.ref p1), some (.ref p2), some (.ref p3), some (.int a), some (.int u), some (.int b), some (.int v), some (.int c), some (.int w), none, none, none, none, none, none, none, none] ∧ Same H H', ?_, fun σ H1 hM => ?_⟩
  · refine ⟨_, rfl, _, rfl, _, rfl, by show 3 ≤ sizeLine; decide, fun l hl => ?_⟩
    have s2 := same_upd (o := .tup [.ref p1, .ref p2, .ref p3]) hl
    exact ⟨l, _, rfl, SqT.of upd_same, rfl, _, _, rfl, p1, _, rfl, SqT.of (s2 _ _ hp1), rfl, _, _, rfl, _, _, rfl, rfl, _, _, rfl, p2, _, rfl, SqT.of (s2 _ _ hp2), rfl, _, _, rfl, _, _, rfl, rfl, _, _, rfl, p3, _, rfl, SqT.of (s2 _ _ hp3), rfl, _, _, rfl, _, _, rfl, rfl, rfl, rfl, s2⟩
  obtain ⟨rfl, t1⟩ := hM
  -- where it is 0
  refine ⟨fun σ H' => σ = [some (.ref p1), some (.ref p2), some (.ref p3), some (.int a), some (.int u), some (.int b), some (.int v), some (.int c), some (.int w), none, none, none, none, none, none, none, none] ∧ H' = H1 ∧ JoinP a b c u v w, ?_, fun σ H1' hM => ?_⟩
  · have nought : ¬ JoinP a b c u v w → tRet (tCall (spExact C) [.int 1, .int 1] E0 (tCons (tC (.int 0)) tNil)) { nx := fun σ H' => σ = [some (.ref p1), some (.ref p2), some (.ref p3), some (.int a), some (.int u), some (.int b), some (.int v), some (.int c), some (.int w), none, none, none, none, none, none, none, none] ∧ H' = H1 ∧ JoinP a b c u v w, rt := Q } [some (.ref p1), some (.ref p2), some (.ref p3), some (.int a), some (.int u), some (.int b), some (.int v), some (.int c), some (.int w), none, none, none, none, none, none, none, none] H1 := fun nj => by
      refine ⟨0, 1, 1, 40, rfl, by decide, by decide, by decide, by decide, root_ok1, fun x H2 s2 hx hN => ?_⟩
      rw [exL_one, show oneL 1 0 1 = [] from if_pos rfl] at hN
      refine q x H2 (t1.trans s2) (t1.free hx) ?_
      unfold joinL
      rw [if_neg nj]
      exact hN
    refine ⟨_, rfl, _, rfl, _, rfl, a, b, c, rfl, _, rfl, ?_⟩
    cases ec : canB a b c with
    | false => exact iteT (iteT (nought fun z => by rw [z.1] at ec; cases ec))
    | true =>
      refine iteF ⟨_, rfl, _, rfl, u, v, rfl, rfl, _, rfl, rfl, _, rfl, ?_⟩
      by_cases e2 : u + v = w
      · exact iteNS (congrArg V.int e2) ⟨rfl, rfl, ec, e2⟩
      · exact iteNT (ine e2) (nought fun z => e2 z.2)
  obtain ⟨rfl, eH1, J⟩ := hM
  replace eH1 := eH1.symm
  subst eH1
  have T := tmp_of P1 P2 P3 J
  have bnd : 0 ≤ a ∧ a ≤ 40 ∧ 0 ≤ b ∧ b ≤ 40 ∧ 0 ≤ c ∧ c ≤ 40 ∧ -a ≤ u ∧ u ≤ a ∧ -b ≤ v ∧ v ≤ b ∧ -c ≤ w ∧ w ≤ c := ⟨P1.t0, P1.t1, P2.t0, P2.t1, P3.t0, P3.t1, P1.lo, P1.hi, P2.lo, P2.hi, P3.lo, P3.hi⟩
  obtain ⟨b1, b2, b3, b4, b5, b6, b7, b8, b9, b10, b11, b12⟩ := bnd
  obtain ⟨k1, k2, k3, k4⟩ := canB_iff.mp J.1
  -- reaches
  refine ⟨fun σ H' => ∃ r : Addr, σ = [some (.ref p1), some (.ref p2), some (.ref p3), some (.int a), some (.int u), some (.int b), some (.int v), some (.int c), some (.int w), some (.ref r), none, none, none, none, none, none, none] ∧ Same H H' ∧ H' r = some (.lst ([(a + b - c) / 2, (a - b + c) / 2, (b - a + c) / 2].map V.int)), ?_, fun σ H2 hM => ?_⟩
  · refine ⟨_, rfl, _, rfl, a, b, rfl, rfl, _, rfl, a + b, c, rfl, rfl, a + b - c, 2, rfl, rfl, d2 _, _, rfl, _, rfl, a, b, rfl, rfl, _, rfl, a - b, c, rfl, rfl, a - b + c, 2, rfl, rfl, d2 _, _, rfl, _, rfl, b, a, rfl, rfl, _, rfl, b - a, c, rfl, rfl, b - a + c, 2, rfl, rfl, d2 _, by show 3 ≤ sizeLine; decide, fun r hr => ?_⟩
    exact ⟨r, rfl, t1.trans (same_upd hr), upd_same⟩
  obtain ⟨r, rfl, t2, hr2'⟩ := hM
  -- heights
  refine ⟨fun σ H' => ∃ h : Addr, σ = [some (.ref p1), some (.ref p2), some (.ref p3), some (.int a), some (.int u), some (.int b), some (.int v), some (.int c), some (.int w), some (.ref r), some (.ref h), none, none, none, none, none, none] ∧ Same H2 H' ∧ H' h = some (.lst ([(a + u) / 2, (a - u) / 2, (b + v) / 2, (b - v) / 2, (c + w) / 2, (c - w) / 2].map V.int)), ?_, fun σ H3 hM => ?_⟩
  · refine ⟨_, rfl, _, rfl, a, u, rfl, rfl, a + u, 2, rfl, rfl, d2 _, _, rfl, _, rfl, a, u, rfl, rfl, a - u, 2, rfl, rfl, d2 _, _, rfl, _, rfl, b, v, rfl, rfl, b + v, 2, rfl, rfl, d2 _, _, rfl, _, rfl, b, v, rfl, rfl, b - v, 2, rfl, rfl, d2 _, _, rfl, _, rfl, c, w, rfl, rfl, c + w, 2, rfl, rfl, d2 _, _, rfl, _, rfl, c, w, rfl, rfl, c - w, 2, rfl, rfl, d2 _, by show 6 ≤ sizeLine; decide, fun h hh => ?_⟩
    exact ⟨h, rfl, same_upd hh, upd_same⟩
  obtain ⟨h, rfl, t3, hh3⟩ := hM
  have hr3' := t3 _ _ hr2'
  -- known
  refine ⟨fun σ H' => ∃ (kn : Addr) (m : Nat), σ = [some (.ref p1), some (.ref p2), some (.ref p3), some (.int a), some (.int u), some (.int b), some (.int v), some (.int c), some (.int w), some (.ref r), some (.ref h), some (.ref kn), none, none, none, none, none] ∧ Same H3 H' ∧ H' kn = some (.lst (factsL m)) ∧ (a + b - c) / 2 ≤ m ∧ (a - b + c) / 2 ≤ m ∧ (b - a + c) / 2 ≤ m, ?_, fun σ H4 hM => ?_⟩
  · refine ⟨_, rfl, r, [(a + b - c) / 2, (a - b + c) / 2, (b - a + c) / 2], rfl, SqL.of hr3', by show 0 < 3; decide, fun m hm hmax => ?_⟩
    have mc : m = (a + b - c) / 2 ∨ m = (a - b + c) / 2 ∨ m = (b - a + c) / 2 := by simpa using hm
    have m1 := hmax ((a + b - c) / 2) (by simp)
    have m2 := hmax ((a - b + c) / 2) (by simp)
    have m3 := hmax ((b - a + c) / 2) (by simp)
    refine ⟨m.toNat, congrArg (fun z => [V.int z]) (by omega), by omega, fun kn hkn => ?_⟩
    exact ⟨kn, m.toNat, rfl, same_upd hkn, upd_same, by omega, by omega, by omega⟩
  obtain ⟨kn, m, rfl, t4, hkn4, m1, m2, m3⟩ := hM
  have hr4' := t4 _ _ hr3'
  -- common
  refine ⟨fun σ H' => σ = [some (.ref p1), some (.ref p2), some (.ref p3), some (.int a), some (.int u), some (.int b), some (.int v), some (.int c), some (.int w), some (.ref r), some (.ref h), some (.ref kn), some (.int ((jCom a u b v c : Nat) : Int)), none, none, none, none] ∧ H' = H4, ?_, fun σ H5 hM => ?_⟩
  · have f1 := fact_lt ((a + b - c) / 2).toNat (by omega)
    have f2 := fact_lt ((a - b + c) / 2).toNat (by omega)
    have f3 := fact_lt ((b - a + c) / 2).toNat (by omega)
    have f12 := wide_lt (nat_bits f1) (nat_bits f2)
    refine ⟨_, rfl, _, rfl, r, _, 0, _, rfl, rfl, SqL.of hr4', atI_nat (j := 0) rfl, kn, _, _, _, rfl, rfl, SqL.of hkn4, facts_at (by omega) (by omega), _, rfl, _, rfl, r, _, 1, _, rfl, rfl, SqL.of hr4', atI_nat (j := 1) rfl, kn, _, _, _, rfl, rfl, SqL.of hkn4, facts_at (by omega) (by omega), _, _, rfl, rfl, cmulw (nat_bits f1) (nat_bits f2) (by decide) (by decide) (by decide), _, rfl, _, rfl, r, _, 2, _, rfl, rfl, SqL.of hr4', atI_nat (j := 2) rfl, kn, _, _, _, rfl, rfl, SqL.of hkn4, facts_at (by omega) (by omega), _, _, rfl, rfl, cmulw f12 (nat_bits f3) (by decide) (by decide) (by decide), ?_, rfl⟩
    rw [com_eq P1 P2 P3 J, Int.natCast_mul, Int.natCast_mul]
    rfl
  obtain ⟨rfl, eH5⟩ := hM
  replace eH5 := eH5.symm
  subst eH5
  -- whole
  refine ⟨fun σ H' => ∃ v14 v15 : Option V, σ = [some (.ref p1), some (.ref p2), some (.ref p3), some (.int a), some (.int u), some (.int b), some (.int v), some (.int c), some (.int w), some (.ref r), some (.ref h), some (.ref kn), some (.int ((jCom a u b v c : Nat) : Int)), some (.int (jSum a u b v c)), v14, v15, none] ∧ Same H4 H', ?_, fun σ H6 hM => ?_⟩
  · refine ⟨_, rfl, _, rfl, _, rfl, p1, p2, a, u, b, v, c, _, _, _, _, _, _, rfl, ((t2.trans t3).trans t4) _ _ hp1, ((t2.trans t3).trans t4) _ _ hp2, T, fun l us lo hi H6 s6 hl l0 ok hiA hR => ?_⟩
    have okn : ∀ i, i < (hi + 1 - lo).toNat → okK (jA a b c) (jB a u) (jC b v) (jD b u c) (jE a v c) (lo.toNat + i) = true := fun i hi' => (ok _).mpr ⟨by omega, by omega⟩
    refine ⟨l, rfl, ⟨_, SqL.of hl⟩, fun D hD => lc_list (xs := us.map V.ref) (fun i H' => Same H6 H' ∧ H' D = some (.lst (((tmL (jA a b c) (jB a u) (jC b v) (jD b u c) (jE a v c) lo.toNat (hi + 1 - lo).toNat).take i).map fun x => V.int (x.1 * (((jCom a u b v c : Nat) : Int) / x.2))))) ⟨same_upd hD, upd_same⟩ (fun i H' _ hP => SqL.of (hP.1 _ _ hl)) (fun i x H' hx hP => ?_) (fun H' hP => ?_)⟩
    · obtain ⟨s7, hD'⟩ := hP
      obtain ⟨t, y, rfl, hy, ht⟩ := (hR.same s7).get hx
      have hi' : i < (hi + 1 - lo).toNat := by
        have := (List.getElem?_eq_some_iff.mp hy).1
        unfold tmL at this
        rw [List.length_map, List.length_range] at this
        exact this
      have ey : y = (sgK (lo.toNat + i), ((botK (jA a b c) (jB a u) (jC b v) (jD b u c) (jE a v c) (lo.toNat + i) : Nat) : Int)) := by
        unfold tmL at hy
        rw [List.getElem?_map, List.getElem?_range hi'] at hy
        exact (Option.some.inj hy).symm
      have bp := botK_pos (jA a b c) (jB a u) (jC b v) (jD b u c) (jE a v c) (lo.toNat + i)
      have bd := Nat.le_of_dvd (comK_pos _ _ _ _ _) (botK_dvd (okn i hi'))
      have cl := comK_lt (A := jA a b c) (B := jB a u) (C := jC b v) (D := jD b u c) (E := jE a v c) (by have := T.lA; have := T.s1; omega) (by have := T.lD; have := T.s1; omega) (by have := T.lE; have := T.s1; omega)
      have cd : CDivW ((jCom a u b v c : Nat) : Int) y.2 := by
        rw [ey]
        refine ⟨by show (0 : Int) < ((botK _ _ _ _ _ _ : Nat) : Int); omega, ?_⟩
        rw [Int.natAbs_natCast]
        exact Nat.lt_of_lt_of_le (PySem.Flt.log2_lt_of (show 0 < 840 by decide) (Nat.lt_of_le_of_lt bd cl)) (by decide)
      have cm : ∀ z : Int, CMul y.1 z := fun z => by
        rw [ey]
        refine .inl ?_
        show -(2 ^ 64) < sgK _ ∧ sgK _ < 2 ^ 64
        unfold sgK
        split <;> exact ⟨by decide, by decide⟩
      refine ⟨t, _, rfl, SqT.of ht, rfl, _, _, rfl, _, _, rfl, rfl, rfl, ?_⟩
      refine ⟨_, rfl, _, rfl, _, rfl, _, y.2, rfl, rfl, cd, y.1, _, rfl, rfl, cm _, _, hD', ?_, ?_, ?_⟩
      · rw [List.length_map, List.length_take, sizeLine_eq]
        unfold tmL
        rw [List.length_map, List.length_range]
        have := T.lA
        have := T.s1
        omega
      · intro x y e
        rw [upd_ne (ne_of_none e hD)]
        exact s7 _ _ e
      · rw [upd_same, List.take_add_one, hy, List.map_append]
        rfl
    · obtain ⟨s7, hD'⟩ := hP
      have eL : ((tmL (jA a b c) (jB a u) (jC b v) (jD b u c) (jE a v c) lo.toNat (hi + 1 - lo).toNat).take (us.map V.ref).length).map (fun x => V.int (x.1 * (((jCom a u b v c : Nat) : Int) / x.2))) = ((tmL (jA a b c) (jB a u) (jC b v) (jD b u c) (jE a v c) lo.toNat (hi + 1 - lo).toNat).map (fun x => x.1 * (((jCom a u b v c : Nat) : Int) / x.2))).map V.int := by
        rw [List.length_map, hR.len, List.take_length, List.map_map]
        rfl
      rw [eL] at hD'
      refine ⟨D, _, rfl, SqL.of hD', none, none, ?_, s6.trans s7⟩
      have es : ((tmL (jA a b c) (jB a u) (jC b v) (jD b u c) (jE a v c) lo.toNat (hi + 1 - lo).toNat).map (fun x => x.1 * (((jCom a u b v c : Nat) : Int) / x.2))).sum = jSum a u b v c := (tm_sum okn).trans (sumK_let l0 ok hiA).symm
      rw [es]
      rfl
  obtain ⟨v14, v15, rfl, s6⟩ := hM
  have hr6 := s6 _ _ hr4'
  have hh6 := s6 _ _ (t4 _ _ hh3)
  -- root
  refine ⟨_, rfl, c, 1, rfl, rfl, _, rfl, h, _, rfl, .inr (SqL.of hh6), by show 7 ≤ sizeLine; decide, fun l1 hl1 => ?_⟩
  have s7 := same_upd (o := .lst (natV (jAb a u b v c w))) hl1
  have e7 : HO.lst (V.int (c + 1) :: ([(a + u) / 2, (a - u) / 2, (b + v) / 2, (b - v) / 2, (c + w) / 2, (c - w) / 2].map V.int ++ [])) = .lst (natV (jAb a u b v c w)) := by
    unfold natV jAb
    simp only [List.map_cons, List.map_nil, List.append_nil]
    rw [show (((c + 1).toNat : Nat) : Int) = c + 1 by omega, show ((((a + u) / 2).toNat : Nat) : Int) = (a + u) / 2 by omega, show ((((a - u) / 2).toNat : Nat) : Int) = (a - u) / 2 by omega, show ((((b + v) / 2).toNat : Nat) : Int) = (b + v) / 2 by omega, show ((((b - v) / 2).toNat : Nat) : Int) = (b - v) / 2 by omega, show ((((c + w) / 2).toNat : Nat) : Int) = (c + w) / 2 by omega, show ((((c - w) / 2).toNat : Nat) : Int) = (c - w) / 2 by omega]
  have h7 : upd H6 l1 (.lst (V.int (c + 1) :: ([(a + u) / 2, (a - u) / 2, (b + v) / 2, (b - v) / 2, (c + w) / 2, (c - w) / 2].map V.int ++ []))) = upd H6 l1 (.lst (natV (jAb a u b v c w))) := by rw [e7]
  refine ⟨_, rfl, _, rfl, _, rfl, a, b, rfl, rfl, _, rfl, a + b, c, rfl, rfl, a + b + c, 2, rfl, rfl, d2 _, (a + b + c) / 2, 1, rfl, rfl, _, rfl, r, _, rfl, .inr (SqL.of (by rw [h7]; exact s7 _ _ hr6)), by show 5 ≤ sizeLine; decide, fun l2 hl2 => ?_⟩
  rw [h7] at hl2 ⊢
  have e8 : HO.lst (V.int c :: V.int ((a + b + c) / 2 + 1) :: ([(a + b - c) / 2, (a - b + c) / 2, (b - a + c) / 2].map V.int ++ [])) = .lst (natV (jBe a b c)) := by
    unfold natV jBe
    simp only [List.map_cons, List.map_nil, List.append_nil]
    rw [show ((c.toNat : Nat) : Int) = c by omega, show ((((a + b + c) / 2 + 1).toNat : Nat) : Int) = (a + b + c) / 2 + 1 by omega, show ((((a + b - c) / 2).toNat : Nat) : Int) = (a + b - c) / 2 by omega, show ((((a - b + c) / 2).toNat : Nat) : Int) = (a - b + c) / 2 by omega, show ((((b - a + c) / 2).toNat : Nat) : Int) = (b - a + c) / 2 by omega]
  have h8 : ∀ G : Hp, upd G l2 (.lst (V.int c :: V.int ((a + b + c) / 2 + 1) :: ([(a + b - c) / 2, (a - b + c) / 2, (b - a + c) / 2].map V.int ++ []))) = upd G l2 (.lst (natV (jBe a b c))) := fun G => by rw [e8]
  have s8 := same_upd (o := .lst (natV (jBe a b c))) hl2
  rw [h8]
  have la := jAb_lt P1 P2 P3
  have lb := jBe_lt P1 P2 P3
  refine ⟨l1, l2, jAb a u b v c w, jBe a b c, rfl, s8 _ _ upd_same, upd_same, by show 0 < 7; decide, by show 7 ≤ 50; decide, by show 5 ≤ 50; decide, fun n hn => by have := la n hn; omega, fun n hn => by have := lb n hn; omega, fun x H7 s9 hx hN => ?_⟩
  -- times
  refine ⟨_, rfl, _, rfl, jSum a u b v c, 1, 1, 40, rfl, by decide, by decide, by decide, by decide, root_ok1, fun y H8 s10 hy hM => ?_⟩
  have sA : Same H H8 := (((((t2.trans t3).trans t4).trans s6).trans (s7.trans s8)).trans s9).trans s10
  refine ⟨x, y, rootL (jAb a u b v c w) (jBe a b c), exL (jSum a u b v c) 1 1, botE (jAb a u b v c w) (jBe a b c), 1, 2000, 900, 1500, 1, 200, rfl, hN.same s10, hM, fit_rootL la (by show 7 ≤ 7; decide), fit_one (jSum_lt P1 P2 P3 J) (by decide), botE_pos _ _, by decide, botE_lt P1 P2 P3, by decide, by decide, by decide, by decide, by decide, by decide, by decide, by decide, by decide, by show 1 ≤ 1000; decide, by rw [exL_one]; have := len_oneL 1 (jSum a u b v c) 1; omega, by rw [exL_one]; have := len_oneL 1 (jSum a u b v c) 1; show 1 * _ ≤ 5000; omega, fun z N H9 s11 hz hNz fN vN lN => ?_⟩
  have bp := botE_pos (jAb a u b v c w) (jBe a b c)
  have tp := topE_pos (jAb a u b v c w) (jBe a b c)
  have rp := (rootE_sqF (jAb a u b v c w) (jBe a b c)).pos
  have eN := times_one (r := ((rootE (jAb a u b v c w) (jBe a b c) : Nat) : Int)) (q := Rat.divInt ((topE (jAb a u b v c w) (jBe a b c) : Nat) : Int) ((botE (jAb a u b v c w) (jBe a b c) : Nat) : Int)) (by omega) (divInt_ne (by omega) (by omega)) fN.can vN
  refine q z H9 (sA.trans s11) (sA.free hz) ?_
  unfold joinL
  rw [if_pos J, ← eN]
  exact hNz
end
end TC
namespace TC
open PySem PySem.Spec PyProof.Rows L2 TCA TCX
theorem dec_int (a b : Int) : decide (V.int a = V.int b) = decide (a = b) := by
  by_cases h : a = b
  · rw [h, decide_eq_true rfl, decide_eq_true rfl]
  · rw [decide_eq_false h, decide_eq_false fun z => h (V.int.inj z)]
theorem Same.but {H H' : Hp} {p : Addr} (s : Same H H') : SameBut p H H' := fun b o _ e => s b o e
theorem SameBut.trans {H H1 H2 : Hp} {p : Addr} (s : SameBut p H H1) (t : SameBut p H1 H2) : SameBut p H H2 := fun b o n e => t b o n (s b o n e)
theorem SameBut.refl {H : Hp} {p : Addr} : SameBut p H H := fun _ _ _ e => e
theorem SameBut.new {H H1 : Hp} {p q : Addr} {o : HO} (s : SameBut p H H1) (n : H1 q = none) : SameBut p H (upd H1 q o) := s.trans (Same.but (same_upd n))
theorem PenAt.same {H H' : Hp} {p c : Addr} {ms : List Int} {n : Int} (h : PenAt H p c ms n) (s : Same H H') : PenAt H' p c ms n := by
  obtain ⟨l, h1, h2, h3⟩ := h
  exact ⟨l, s _ _ h1, s _ _ h2, h3⟩
theorem PenAt.new {H : Hp} {p c q : Addr} {ms : List Int} {n : Int} {o : HO} (h : PenAt H p c ms n) (hq : H q = none) : PenAt (upd H q o) p c ms n := h.same (same_upd hq)
theorem PenAt.ne {H : Hp} {p c q : Addr} {ms : List Int} {n : Int} (h : PenAt H p c ms n) (hq : H q = none) : q ≠ p := by
  obtain ⟨l, h1, h2, h3⟩ := h
  exact fun e => by rw [e, h1] at hq; cases hq
end TC
namespace TC
open PySem PySem.Spec PyProof.Rows L2 TCA TCX
section
variable {P : Program} {w : World} {K : PySem.W.Frag} {mg : Str → Option Value} {base : Heap} {f fD : Addr} {fd fdD : FuncData}
/-! ### _law_size -/
theorem at4 {a b c d : V} {i : Int} (h0 : 0 ≤ i) (h1 : i < 4) : atI [a, b, c, d] i = some ([a, b, c, d].getD i.toNat a) := by
  have : i = 0 ∨ i = 1 ∨ i = 2 ∨ i = 3 := by omega
  rcases this with rfl | rfl | rfl | rfl <;> exact atI_nat rfl
/-! ### _law_fits -/
def fitsB (a b c : Int) : Bool := decide ((a + b + c) % 2 = 0) && (decide (c ≤ a + b) && (decide (a ≤ b + c) && decide (b ≤ a + c)))
def spFits : Sp := fun vs H Q _ => ∃ a b c : Int, vs = [.int a, .int b, .int c] ∧ Q (.bl (fitsB a b c)) H
theorem scFits : FnScope ["_law_a", "_law_b", "_law_c"] ["_law_a", "_law_b", "_law_c"] (defScope sFits) := ⟨rfl, rfl, rfl, by decide +kernel, rfl, by decide +kernel, by decide +kernel⟩
theorem ok_fits (F : FnP K "_law_fits" sFits f fd) : FnOk P w K mg base CX0 1 f fd ["_law_a", "_law_b", "_law_c"] spFits := by
  refine F.ok scFits (fun vs H Q E h => ?_) (fun cdv A outer s H vs Q E hr h => ?_)
  · obtain ⟨a, b, c, rfl, _⟩ := h
    rfl
  · obtain ⟨a, b, c, rfl, q⟩ := h
    refine ⟨_, PSs.nox (pss_one (ps_ret (pe_and (pe_cmpR op_eq (pe_op op_mod (pe_op op_add (pe_op op_add (pv 0) (pv 1)) (pv 2)) pe_int) pe_int (nomark _)) (pe_and (pe_cmpR op_le (pv 2) (pe_op op_add (pv 0) (pv 1)) (nomark _))
      (pe_and (pe_cmpR op_le (pv 0) (pe_op op_add (pv 1) (pv 2)) (nomark _)) (pe_one (pe_cmpR op_le (pv 1) (pe_op op_add (pv 0) (pv 2)) (nomark _)))))))), ?_⟩
    unfold fitsB at q
    refine ⟨_, rfl, _, rfl, a, b, rfl, rfl, _, rfl, _, c, rfl, rfl, _, 2, rfl, rfl, (show (0 : Int) < 2 by decide), rfl, _, rfl, ?_⟩
    rw [dec_int]
    refine iteB (fun h => ?_) fun h => by rw [h] at q; exact q
    rw [h] at q
    refine ⟨_, rfl, _, rfl, _, rfl, a, b, rfl, rfl, c, _, rfl, rfl, _, rfl, iteB (fun h => ?_) fun h => by rw [h] at q; exact q⟩
    rw [h] at q
    refine ⟨_, rfl, _, rfl, _, rfl, b, c, rfl, rfl, a, _, rfl, rfl, _, rfl, iteB (fun h => ?_) fun h => by rw [h] at q; exact q⟩
    rw [h] at q
    exact ⟨_, rfl, _, rfl, _, rfl, a, c, rfl, rfl, b, _, rfl, rfl, q⟩
end
end TC
namespace TC
open PySem PySem.Spec PyProof.Rows L2 TCA TCX
section
variable {P : Program} {w : World} {K : PySem.W.Frag} {mg : Str → Option Value} {base : Heap} {f fD fF : Addr} {fd fdD fdF : FuncData}
/-! ### _law_third -/
/-- the whole numbers from 0 to k - 1 that fit -/
def fitL (a b : Int) (k : Nat) : List Int := ((List.range k).map fun i => (0 : Int) + (i : Nat)).filter (fitsB a b)
theorem fitL_succ (a b : Int) (k : Nat) : fitL a b (k + 1) = fitL a b k ++ (if fitsB a b (0 + (k : Nat)) = true then [0 + ((k : Nat) : Int)] else []) := by
  unfold fitL
  rw [List.range_succ, List.map_append, List.filter_append]
  congr 1
  show List.filter (fitsB a b) [0 + ((k : Nat) : Int)] = _
  by_cases h : fitsB a b (0 + (k : Nat)) = true
  · rw [if_pos h, List.filter_cons_of_pos h]
    rfl
  · rw [if_neg h, List.filter_cons_of_neg h]
    rfl
theorem fitL_len (a b : Int) (k : Nat) : (fitL a b k).length ≤ k := by
  unfold fitL
  refine Nat.le_trans (List.length_filter_le _ _) ?_
  rw [List.length_map, List.length_range]
  exact Nat.le_refl _
theorem fitL_mem {a b : Int} {k : Nat} {c : Int} : c ∈ fitL a b k ↔ 0 ≤ c ∧ c < k ∧ fitsB a b c = true := by
  unfold fitL
  rw [List.mem_filter, List.mem_map]
  constructor
  · rintro ⟨⟨i, hi, rfl⟩, h⟩
    have := List.mem_range.mp hi
    exact ⟨by omega, by omega, h⟩
  · rintro ⟨h0, h1, h2⟩
    exact ⟨⟨c.toNat, List.mem_range.mpr (by omega), by omega⟩, h2⟩
def thirdL (a b h : Int) : List Int := fitL a b (h + 1).toNat ++ (if (if a - b < 0 then -(a - b) else a - b) > h then [h] else [])
theorem thirdL_ne {a b h : Int} (ha : 0 ≤ a) (hb : 0 ≤ b) (hh : 0 ≤ h) : 0 < (thirdL a b h).length := by
  unfold thirdL
  by_cases z : (if a - b < 0 then -(a - b) else a - b) > h
  · rw [if_pos z, List.length_append]
    show 0 < _ + 1
    omega
  · rw [if_neg z, List.append_nil]
    refine List.length_pos_of_mem (a := if a - b < 0 then -(a - b) else a - b) (fitL_mem.mpr ⟨?_, ?_, ?_⟩)
    · split <;> omega
    · split at z <;> split <;> omega
    · unfold fitsB
      have e : ∀ c : Int, (c = a - b ∨ c = b - a) → 0 ≤ c → (decide ((a + b + c) % 2 = 0) && (decide (c ≤ a + b) && (decide (a ≤ b + c) && decide (b ≤ a + c)))) = true := fun c hc h0 => by
        rw [decide_eq_true (by omega), decide_eq_true (by omega), decide_eq_true (by omega), decide_eq_true (by omega)]
        rfl
      split
      · exact e _ (by omega) (by omega)
      · exact e _ (by omega) (by omega)
def spThird : Sp := fun vs H Q _ => ∃ (p c : Addr) (ms : List Int) (n a b h : Int), vs = [.ref p, .int a, .int b, .int h] ∧ PenAt H p c ms n ∧ 0 ≤ n ∧ n ≤ 900000 ∧ 0 ≤ a ∧ 0 ≤ b ∧ 0 ≤ h ∧ h ≤ 1000 ∧
  ∀ (d n' : Int) H', d ∈ thirdL a b h → n ≤ n' → n' ≤ n + 1 → PenAt H' p c ms n' → SameBut p H H' → Q (.int d) H'
abbrev nThird : List Str := ["_law_pen_here", "_law_a", "_law_b", "_law_high", "_law_some", "_law_c"]
theorem scThird : FnScope nThird ["_law_pen_here", "_law_a", "_law_b", "_law_high"] (defScope sThird) := ⟨rfl, rfl, rfl, by decide +kernel, rfl, by decide +kernel, by decide +kernel⟩
theorem ok_third (F : FnP K "_law_third" sThird f fd) (GD : FnOk P w K mg base CX0 1 fD fdD ["_law_pen_here", "_law_many"] spDraw) (bD : L2.Binds K fdD ["_law_pen_here", "_law_many"] []) (kD : PySem.W.keepIn K (.ref fD) = true) (gD : mg "_law_draw" = some (.ref fD))
    (GF : FnOk P w K mg base CX0 1 fF fdF ["_law_a", "_law_b", "_law_c"] spFits) (bF : L2.Binds K fdF ["_law_a", "_law_b", "_law_c"] []) (kF : PySem.W.keepIn K (.ref fF) = true) (gF : mg "_law_fits" = some (.ref fF))
    (gr : mg "range" = none) (gi : mg "int" = none) (ga : mg "abs" = none) (gl : mg "len" = none) :
    FnOk P w K mg base CX0 2 f fd ["_law_pen_here", "_law_a", "_law_b", "_law_high"] spThird := by
  refine F.ok scThird (fun vs H Q E h => ?_) (fun cdv A outer s H vs Q E hr h => ?_)
  · obtain ⟨p, c, ms, n, a, b, h, rfl, _⟩ := h
    rfl
  · obtain ⟨p, c, ms, n, a, b, h, rfl, hp, n0, n1, a0, b0, h0, h1, q⟩ := h
    refine ⟨_, PSs.nox (pss_cons (ps_set (i := 4) scThird.nd rfl (.inl rfl) (pe_op op_cat
        (pe_lc (own := [("_law_c", 5)]) (g := gName 5) (tt := tB (tCall spFits [] E0 (tCons (tVar 1) (tCons (tVar 2) (tCons (tVar 5) tNil))))) (te := tVar 5) rfl scThird.nd (pi_range1 rfl gr (pa_cons (pe_op op_add (pv 3) pe_int) pa_nil))
          (blkOk_by (N := nThird) (sc := defScope sThird) (by decide +kernel)) (fun _ _ _ _ _ => pg_name (i := 5) scThird.nd rfl (.inl rfl)) (fun _ _ _ _ _ => pts_one (pt_val (pe_call GF hr (by rfl) gF kF bF .nil pass0 (pa_cons (pv 1) (pa_cons (pv 2) (pa_cons (pv 5) pa_nil)))))) (fun _ _ _ _ _ => pv 5))
        (pe_op op_rep (pe_lst (pa_cons (pv 3) pa_nil)) (pe_callTy call_int1 (by rfl) gi (by decide +kernel) (pa_cons (pe_cmpR op_gt (pe_callB call_abs (by rfl) ga (by decide +kernel) (pa_cons (pe_op op_sub (pv 1) (pv 2)) pa_nil)) (pv 3) (nomark _)) pa_nil)))))
      (pss_one (ps_ret (pe_ix ix_list (pv 4) (pe_call GD hr (by rfl) gD kD bD .nil pass0 (pa_cons (pv 0) (pa_cons (pe_callB call_len_seq (by rfl) gl PySem.boot_len (pa_cons (pv 4) pa_nil)) pa_nil))) (fun _ _ => rfl))))), ?_⟩
    refine ⟨_, rfl, h, 1, rfl, rfl, h + 1, rfl, by omega, by omega, fun D hD => lc_range (lo := 0) (n := (h + 1).toNat) (fun i H' => Same H H' ∧ H' D = some (.lst ((fitL a b i).map V.int))) ⟨same_upd hD, upd_same⟩ (fun i H' hi hP => ?_) (fun H' hP => ?_)⟩
    · obtain ⟨sm, hd⟩ := hP
      refine ⟨rfl, ?_⟩
      refine ⟨_, rfl, _, rfl, _, rfl, a, b, _, rfl, _, rfl, ?_⟩
      refine iteB (fun z => ?_) fun z => ?_
      · refine ⟨_, rfl, _, hd, ?_, ?_, ?_⟩
        · have := fitL_len a b i
          rw [List.length_map, sizeLine_eq]
          omega
        · intro b' o e
          rw [upd_ne (ne_of_none e hD)]
          exact sm b' o e
        · rw [upd_same, fitL_succ, if_pos z, List.map_append]
          rfl
      · refine ⟨sm, ?_⟩
        rw [hd, fitL_succ, if_neg (by rw [z]; exact Bool.false_ne_true), List.append_nil]
    · obtain ⟨sm, hd⟩ := hP
      refine ⟨_, rfl, by show 1 ≤ sizeLine; decide, fun l hl => ?_⟩
      have s1 := same_upd (o := .lst [.int h]) hl
      obtain ⟨gap, eg⟩ : ∃ g : Int, (if a - b < 0 then -(a - b) else a - b) = g := ⟨_, rfl⟩
      refine ⟨_, rfl, _, rfl, a, b, rfl, rfl, a - b, rfl, _, rfl, _, h, rfl, rfl, .inr ⟨_, rfl, ?_⟩⟩
      rw [eg]
      obtain ⟨k, ek⟩ : ∃ k : Int, (if decide (gap > h) = true then (1 : Int) else 0) = k := ⟨_, rfl⟩
      rw [ek]
      have k01 : k = 0 ∨ k = 1 := by
        rw [← ek]
        split <;> omega
      refine ⟨l, k, _, rfl, rfl, upd_same, by omega, by omega, ?_, fun l2 hl2 => ?_⟩
      · rw [sizeLine_eq]
        show 1 * k.toNat ≤ _
        omega
      obtain ⟨tail, et⟩ : ∃ t : List Int, (if gap > h then [h] else []) = t := ⟨_, rfl⟩
      have er : (List.replicate k.toNat ([V.int h] : List V)).flatten = tail.map V.int := by
        rw [← ek, ← et]
        by_cases z : gap > h
        · rw [if_pos (decide_eq_true z), if_pos z]
          rfl
        · rw [if_neg (by rw [decide_eq_false z]; exact Bool.false_ne_true), if_neg z]
          rfl
      have tl : tail.length ≤ 1 := by
        rw [← et]
        split <;> simp
      have s2 := same_upd (o := .lst ((List.replicate k.toNat ([V.int h] : List V)).flatten)) hl2
      refine ⟨D, l2, _, _, rfl, rfl, s2 _ _ (s1 _ _ hd), upd_same, ?_, fun l3 hl3 => ?_⟩
      · have := fitL_len a b (h + 1).toNat
        rw [er, List.length_map, List.length_map, sizeLine_eq]
        omega
      have e3 : ((fitL a b (h + 1).toNat).map V.int) ++ (List.replicate k.toNat ([V.int h] : List V)).flatten = (thirdL a b h).map V.int := by
        rw [er, ← List.map_append, ← et, ← eg]
        rfl
      rw [e3]
      have s3 := same_upd (o := .lst ((thirdL a b h).map V.int)) hl3
      have sA : Same H _ := (sm.trans (s1.trans s2)).trans s3
      have p3 := hp.same sA
      have tn := thirdL_ne a0 b0 h0
      have tlen : (thirdL a b h).length ≤ 1002 := by
        have := fitL_len a b (h + 1).toNat
        unfold thirdL
        rw [List.length_append, eg, et]
        omega
      refine ⟨_, rfl, _, rfl, _, rfl, l3, _, rfl, .inl (SqL.of upd_same), p, c, ms, n, _, rfl, p3, n0, by omega, ?_, ?_, fun d n' H5 d0 d1 e0 e1 p5 s5 => ?_⟩
      · rw [List.length_map]
        omega
      · rw [List.length_map]
        exact Int.lt_of_le_of_lt (show ((thirdL a b h).length : Int) ≤ 1002 by omega) (by decide)
      · rw [List.length_map] at d1
        have hL := s5 _ _ (PenAt.ne (hp.same (sm.trans (s1.trans s2))) hl3) upd_same
        refine ⟨l3, _, d, .int ((thirdL a b h)[d.toNat]'(by omega)), rfl, rfl, SqL.of hL, at_of (j := d.toNat) (by omega) (by rw [List.getElem?_map, List.getElem?_eq_getElem (by omega)]; rfl), ?_⟩
        exact q _ n' _ (List.getElem_mem _) e0 e1 p5 (SameBut.trans (Same.but sA) s5)
end
end TC
namespace TC
open PySem PySem.Spec PyProof.Rows L2 TCA TCX
theorem fits_iff {a b c : Int} : fitsB a b c = true ↔ (a + b + c) % 2 = 0 ∧ c ≤ a + b ∧ a ≤ b + c ∧ b ≤ a + c := by
  unfold fitsB
  simp only [Bool.and_eq_true, decide_eq_true_eq]
theorem third_fits {a b h d : Int} (a0 : 0 ≤ a) (a1 : a ≤ h) (b0 : 0 ≤ b) (b1 : b ≤ h) (hd : d ∈ thirdL a b h) : 0 ≤ d ∧ d ≤ h ∧ fitsB a b d = true := by
  unfold thirdL at hd
  have n : ¬ (if a - b < 0 then -(a - b) else a - b) > h := by
    split <;> omega
  rw [if_neg n, List.append_nil] at hd
  obtain ⟨h0, h1, h2⟩ := fitL_mem.mp hd
  exact ⟨h0, by omega, h2⟩
theorem lt_1000 {m : Int} (h : m ≤ 1000) : m < 2 ^ 1000 := Int.lt_of_le_of_lt h (by decide +kernel)
section
variable {P : Program} {w : World} {K : PySem.W.Frag} {mg : Str → Option Value} {base : Heap} {f fD fT fZ fP fS : Addr} {fd fdD fdT fdZ fdP fdS : FuncData}
end
end TC
namespace TC
set_option exponentiation.threshold 20000
open PySem PySem.Spec PyProof.Rows L2 TCA TCX
section
variable {P : Program} {w : World} {K : PySem.W.Frag} {mg : Str → Option Value} {base : Heap} {f fD fT fZ fP fS : Addr} {fd fdD fdT fdZ fdP fdS : FuncData} {C fI fQ : Addr}
/-! ### _law_pairs -/
/-- three pairs at t -/
def ThreeAt (H : Hp) (t : Addr) (x y z : Int × Int) : Prop := ∃ q1 q2 q3 : Addr, H t = some (.tup [.ref q1, .ref q2, .ref q3]) ∧ H q1 = some (pairO x) ∧ H q2 = some (pairO y) ∧ H q3 = some (pairO z)
def spPairs : Sp := fun vs H Q _ => ∃ (p c t : Addr) (ms : List Int) (n a b d : Int), vs = [.ref p, .ref t] ∧ PenAt H p c ms n ∧ 0 ≤ n ∧ n ≤ 800000 ∧ H t = some (.tup [.int a, .int b, .int d]) ∧ 0 ≤ a ∧ a ≤ 40 ∧ 0 ≤ b ∧ b ≤ 40 ∧ 0 ≤ d ∧ d ≤ 40 ∧ fitsB a b d = true ∧
  ∀ (t' : Addr) (u v w n' : Int) H', PairP a u → PairP b v → PairP d w → ThreeAt H' t' (a, u) (b, v) (d, w) → n ≤ n' → n' ≤ n + 2 → PenAt H' p c ms n' → SameBut p H H' → Q (.ref t') H'
abbrev nPairs : List Str := ["_law_pen_here", "_law_sizes_here", "_law_a", "_law_b", "_law_c", "_law_w", "_law_low_here", "_law_high", "_law_u"]
theorem scPairs : FnScope nPairs ["_law_pen_here", "_law_sizes_here"] (defScope sPairs) := ⟨rfl, rfl, rfl, by decide +kernel, rfl, by decide +kernel, by decide +kernel⟩
theorem ok_pairs (F : FnP K "_law_pairs" sPairs f fd) (GD : FnOk P w K mg base CX0 1 fD fdD ["_law_pen_here", "_law_many"] spDraw) (bD : L2.Binds K fdD ["_law_pen_here", "_law_many"] []) (kD : PySem.W.keepIn K (.ref fD) = true) (gD : mg "_law_draw" = some (.ref fD)) (gmax : mg "max" = none) (gmin : mg "min" = none) :
    FnOk P w K mg base CX0 2 f fd ["_law_pen_here", "_law_sizes_here"] spPairs := by
  refine F.ok scPairs (fun vs H Q E h => ?_) (fun cdv A outer s H vs Q E hr h => ?_)
  · obtain ⟨_, _, _, _, _, _, _, _, rfl, _⟩ := h
    rfl
  obtain ⟨p, c, t, ms, n, a, b, d, rfl, hp, n0, n1, ht, a0, a1, b0, b1, d0, d1, hf, q⟩ := h
  have hr1 := hr.mono (j := 1) (by decide)
  obtain ⟨f1, f2, f3, f4⟩ := fits_iff.mp hf
  refine ⟨_, PSs.nox (pss_cons (ps_asg (pv 1) (pg_tup rfl (pgs_cons (pg_name (i := 2) scPairs.nd rfl (.inl rfl)) (pgs_cons (pg_name (i := 3) scPairs.nd rfl (.inl rfl)) (pgs_cons (pg_name (i := 4) scPairs.nd rfl (.inl rfl)) pgs_nil)))))
      (C8.pss_cut (ps_set (i := 5) scPairs.nd rfl (.inl rfl) (pe_op op_sub (pe_op op_mul pe_int (pe_call GD hr1 (by rfl) gD kD bD .nil pass0 (pa_cons (pv 0) (pa_cons (pe_op op_add (pv 4) pe_int) pa_nil)))) (pv 4)))
      (C8.pss_cut (ps_par (i := 6) (j := 7) (by rfl) scPairs.nd rfl rfl (by decide) rfl rfl (pa_cons (pe_callB (call_max2 rfl) (by rfl) gmax (by decide +kernel) (pa_cons (pe_op op_sub pe_int (pv 2)) (pa_cons (pe_op op_sub (pv 5) (pv 3)) pa_nil))) (pa_cons (pe_callB (call_min2 rfl) (by rfl) gmin (by decide +kernel) (pa_cons (pv 2) (pa_cons (pe_op op_add (pv 5) (pv 3)) pa_nil))) pa_nil)) (by rfl))
      (pss_cons (ps_set (i := 8) scPairs.nd rfl (.inl rfl) (pe_op op_add (pv 6) (pe_op op_mul pe_int (pe_call GD hr1 (by rfl) gD kD bD .nil pass0 (pa_cons (pv 0) (pa_cons (pe_op op_add (pe_op op_fdiv (pe_op op_sub (pv 7) (pv 6)) pe_int) pe_int) pa_nil))))))
      (pss_one (ps_ret (pe_tup (pa_cons (pe_tup (pa_cons (pv 2) (pa_cons (pv 8) pa_nil))) (pa_cons (pe_tup (pa_cons (pv 3) (pa_cons (pe_op op_sub (pv 5) (pv 8)) pa_nil))) (pa_cons (pe_tup (pa_cons (pv 4) (pa_cons (pv 5) pa_nil))) pa_nil)))))))))), ?_⟩
  refine ⟨_, rfl, t, _, rfl, SqT.of ht, rfl, _, _, rfl, _, _, rfl, _, _, rfl, rfl, ?_⟩
  refine ⟨fun σ H' => ∃ w n' : Int, σ = [some (.ref p), some (.ref t), some (.int a), some (.int b), some (.int d), some (.int w), none, none, none] ∧ -d ≤ w ∧ w ≤ d ∧ (d - w) % 2 = 0 ∧ n ≤ n' ∧ n' ≤ n + 1 ∧ PenAt H' p c ms n' ∧ SameBut p H H', ?_, fun σ H1 hM => ?_⟩
  · refine ⟨_, rfl, _, rfl, d, 1, rfl, rfl, p, c, ms, n, d + 1, rfl, hp, n0, by omega, by omega, lt_1000 (by omega), fun e n1' H1 e0 e1 x0 x1 p1 s1 => ?_⟩
    exact ⟨2, e, rfl, rfl, .inl ⟨by decide, by decide⟩, _, rfl, 2 * e, d, rfl, rfl, 2 * e - d, n1', rfl, by omega, by omega, by omega, x0, x1, p1, s1⟩
  obtain ⟨w, n1', rfl, w0, w1, w2, x0, x1, p1, s1⟩ := hM
  refine ⟨fun σ H' => ∃ lo hi : Int, σ = [some (.ref p), some (.ref t), some (.int a), some (.int b), some (.int d), some (.int w), some (.int lo), some (.int hi), none] ∧ H' = H1 ∧ (lo = -a ∨ lo = w - b) ∧ -a ≤ lo ∧ w - b ≤ lo ∧ (hi = a ∨ hi = w + b) ∧ hi ≤ a ∧ hi ≤ w + b, ?_, fun σ H2 hM => ?_⟩
  · refine ⟨_, rfl, 0, a, rfl, rfl, _, rfl, _, rfl, w, b, rfl, rfl, 0 - a, w - b, rfl, _, rfl, _, rfl, _, rfl, w, b, rfl, rfl, a, w + b, rfl, _, _, rfl, ?_⟩
    refine ⟨if w - b > 0 - a then w - b else 0 - a, if w + b < a then w + b else a, rfl, rfl, ?_, ?_, ?_, ?_, ?_, ?_⟩ <;> split <;> omega
  obtain ⟨lo, hi, rfl, rfl, l1, l2, l3, l4, l5, l6⟩ := hM
  refine ⟨_, rfl, _, rfl, _, rfl, _, rfl, hi, lo, rfl, rfl, hi - lo, 2, rfl, rfl, ⟨by decide, by decide⟩, (hi - lo) / 2, 1, rfl, rfl, p, c, ms, n1', (hi - lo) / 2 + 1, rfl, p1, by omega, by omega, by omega, lt_1000 (by omega), fun g n2 H3 g0 g1 x2 x3 p2 s2 => ?_⟩
  refine ⟨2, g, rfl, rfl, .inl ⟨by decide, by decide⟩, lo, 2 * g, rfl, rfl, ?_⟩
  refine ⟨_, rfl, _, rfl, by show 2 ≤ sizeLine; decide, fun q1 hq1 => ?_⟩
  refine ⟨_, rfl, _, rfl, _, rfl, w, lo + 2 * g, rfl, rfl, by show 2 ≤ sizeLine; decide, fun q2 hq2 => ?_⟩
  refine ⟨_, rfl, _, rfl, by show 2 ≤ sizeLine; decide, fun q3 hq3 => ?_⟩
  refine ⟨by show 3 ≤ sizeLine; decide, fun t' ht' => ?_⟩
  have z1 := same_upd (o := .tup [.int a, .int (lo + 2 * g)]) hq1
  have z2 := same_upd (o := .tup [.int b, .int (w - (lo + 2 * g))]) hq2
  have z3 := same_upd (o := .tup [.int d, .int w]) hq3
  have z4 := same_upd (o := .tup [.ref q1, .ref q2, .ref q3]) ht'
  refine q t' (lo + 2 * g) (w - (lo + 2 * g)) w n2 _ ⟨a0, a1, by omega, by omega, by omega⟩ ⟨b0, b1, by omega, by omega, by omega⟩ ⟨d0, d1, by omega, by omega, by omega⟩ ⟨q1, q2, q3, upd_same, z4 _ _ (z3 _ _ (z2 _ _ upd_same)), z4 _ _ (z3 _ _ upd_same), z4 _ _ upd_same⟩ (by omega) (by omega) (p2.same (((z1.trans z2).trans z3).trans z4)) ((s1.trans s2).trans (Same.but (((z1.trans z2).trans z3).trans z4)))
theorem tup_but {p c q : Addr} {ms : List Int} {n : Int} {H H' : Hp} {xs : List V} (sb : SameBut p H H') (hp : PenAt H p c ms n) (h : H q = some (.tup xs)) : H' q = some (.tup xs) := sb _ _ (fun z => by
  obtain ⟨l, h1, _⟩ := hp
  rw [z, h1] at h
  cases h) h
end
end TC
/-! repr of lists of ints; the end of a law whose own def asks repr. -/
namespace TCX
open PySem PySem.Spec PyProof.Rows L2
/-! ### data of lists of ints -/
def dInts (ns : List Int) : List PyData := ns.map PyData.int
theorem dpAll_ints {K : PySem.W.Frag} {H : Hp} : ∀ ns : List Int, DpAll K H (ns.map V.int) (dInts ns)
  | [] => .nil
  | n :: r => .cons (.int n) (dpAll_ints r)
theorem dp_ints {K : PySem.W.Frag} {H : Hp} {a : Addr} {ns : List Int} (h : H a = some (.lst (ns.map V.int))) : Dp K H (.ref a) (.list (dInts ns)) := .lst (SqL.of h) (dpAll_ints ns)
theorem log_small {i : Int} (h : i.natAbs < 10 ^ 9) : i.natAbs.log2 < 30 := Nat.lt_of_lt_of_le (PySem.Flt.log2_lt_of (show 0 < 30 by decide) (Nat.lt_trans h (by decide))) (by decide)
theorem ints_show : ∀ ns : List Int, (∀ n ∈ ns, n.natAbs < 10 ^ 9) → PyData.showableAll (dInts ns) = true ∧ PyData.hasDictAll (dInts ns) = false ∧ PyData.depthAll (dInts ns) = 0 ∧ PyData.leavesShortAll 13 (dInts ns) = true ∧ PyData.weightAll (dInts ns) ≤ 40 * ns.length
  | [], _ => ⟨rfl, rfl, rfl, rfl, Nat.le_refl _⟩
  | n :: r, h => by
    obtain ⟨h1, h2, h3, h4, h5⟩ := ints_show r fun m hm => h m (List.mem_cons_of_mem _ hm)
    have hn := h n List.mem_cons_self
    have hl := log_small hn
    refine ⟨?_, ?_, ?_, ?_, ?_⟩
    · show (PyData.showable (.int n) && PyData.showableAll (dInts r)) = true
      rw [h1, Bool.and_true]
      simp only [PyData.showable, decide_eq_true_eq]
      omega
    · show (PyData.hasDict (.int n) || PyData.hasDictAll (dInts r)) = false
      rw [h2]
      rfl
    · show max (PyData.depth (.int n)) (PyData.depthAll (dInts r)) = 0
      rw [h3]
      rfl
    · show (PyData.leavesShort 13 (.int n) && PyData.leavesShortAll 13 (dInts r)) = true
      rw [h4, Bool.and_true]
      exact decide_eq_true (PyData.shown_int_le (Nat.lt_trans hn (by decide)))
    · show PyData.weight (.int n) + 1 + PyData.weightAll (dInts r) ≤ 40 * (r.length + 1)
      have : PyData.weight (.int n) ≤ 31 := by
        show (if n == 0 then 0 else n.natAbs.log2 + 1) ≤ 31
        split <;> omega
      omega
structure Shows (d : PyData) : Prop where
  s : d.showable = true
  h : d.hasDict = false
  dp : d.depth ≤ 60
  z : d.shown.length ≤ sizeLine
theorem shows_ints {ns : List Int} (h : ∀ n ∈ ns, n.natAbs < 10 ^ 9) (hl : ns.length ≤ 10000) : Shows (.list (dInts ns)) := by
  obtain ⟨h1, h2, h3, h4, h5⟩ := ints_show ns h
  refine ⟨h1, h2, ?_, PyData.shown_fits (B := 13) (by decide) (by decide) (d := .list (dInts ns)) h4 ?_⟩
  · show PyData.depthAll (dInts ns) + 1 ≤ 60
    omega
  · show PyData.weightAll (dInts ns) ≤ 2 ^ 20
    omega
/-! ### the end of a law, by FnG -/
section
variable {P : Program} {w : World} {K : PySem.W.Frag} {mg mb : Str → Option Value} {CX : CXT} {k : Nat} {fa a : Addr} {cs : List (Addr × Addr)} {fd : FuncData} {x : Str} {sp : Sp} {s₁ : Shared} {vs : List Value} {ns : List Int}
/-- the script (where K doesn't hold it) and the tables are tracked at the law's call -/
def hLaw (K : PySem.W.Frag) (T : List Addr) (a : Addr) (ob : Obj) (xs : List V) : Hp := fun b =>
  if b ∈ T then some (.tbl #[]) else if b = a ∧ K.lookup a = none then some (.frz ob (.lst xs)) else none
theorem hLaw_tab {T : List Addr} {ob : Obj} {xs : List V} {b : Addr} (h : b ∈ T) : hLaw K T a ob xs b = some (.tbl #[]) := if_pos h
theorem hLaw_inv {T : List Addr} {ob : Obj} {xs : List V} {b : Addr} {u : HO} (h : hLaw K T a ob xs b = some u) : (b ∈ T ∧ u = .tbl #[]) ∨ (b = a ∧ K.lookup a = none ∧ u = .frz ob (.lst xs)) := by
  unfold hLaw at h
  by_cases hT : b ∈ T
  · rw [if_pos hT] at h
    exact .inl ⟨hT, (Option.some.inj h).symm⟩
  · rw [if_neg hT] at h
    by_cases ha : b = a ∧ K.lookup a = none
    · rw [if_pos ha] at h
      exact .inr ⟨ha.1, ha.2, (Option.some.inj h).symm⟩
    · rw [if_neg ha] at h
      cases h
theorem law_callG (KX : K.In s₁.heap) (hns : s₁.heap.Ns mainGlobals mg) (hb : s₁.heap.Ns builtinsNs mb) (hbb : ∀ x : Str, x ≠ "__name__" → mb x = bootBuiltins x) (hlim : s₁.heap.NoLimit) (hg : s₁.gens = #[])
    (hT : ∀ p ∈ cs, s₁.heap.get? p.2 = some { cls := .none, data := .fields #[] }) (nT : ∀ p ∈ cs, K.lookup p.2 = none) (C : ∀ p ∈ cs, PySem.W.CodeHd s₁.heap p.1 p.2)
    (hbm : ∃ (bm : Addr) (ob : Obj), mg "__builtins__" = some (.ref bm) ∧ bm ≠ builtinsNs ∧ s₁.heap.get? bm = some ob ∧ ob.cls = .type "module" ∧ ob.dict = some builtinsNs ∧ ob.data = .plain)
    (ha : s₁.heap.get? a = some { cls := .type "list", data := .seq vs.toArray }) (hi : IntsAre vs ns) (hl : ns.length ≤ sizeLine) (hr : Room k callerA)
    (F : ∀ base : Heap, K.In base → base.Ns mainGlobals mg → (∀ p ∈ cs, LamX.TabB base mg p.1 p.2) → FnG P w K mg base CX k fa fd [x] sp) (hbind : ∀ (s : Shared) (u : Value), BindsTo s fd ⟨[u], []⟩ [(x, u)])
    (hsp : ∀ H : Hp, (∀ p ∈ cs, H p.2 = some (.tbl #[])) → SqL K H a (ns.map V.int) → sp [.ref a] H (fun v _ => v = .bl true) fun _ _ _ => False)
    (hCX : ∀ H e s', CX [] H s₁ (fun _ _ _ => False) e s' → False) :
    codeAny (model P w) callerA (.call (.ref fa) ⟨[.ref a], []⟩) (fun r s' => r = .ok (.ret (.bool true)) ∧ OldK s₁.heap s'.heap ∧ s'.os = s₁.os ∧ AllBare s'.gens) s₁ := by
  have rv := vals_ints hi
  have lenV := hi.length
  obtain ⟨T, eT⟩ : ∃ T : List Addr, cs.map (·.2) = T := ⟨_, rfl⟩
  have tIn : ∀ p ∈ cs, p.2 ∈ T := fun p hp => by
    rw [← eT]
    exact List.mem_map.mpr ⟨p, hp, rfl⟩
  have tOut : ∀ b, b ∈ T → ∃ p ∈ cs, p.2 = b := fun b h => by
    rw [← eT] at h
    exact List.mem_map.mp h
  have tGet : ∀ b, b ∈ T → s₁.heap.get? b = some { cls := .none, data := .fields #[] } := fun b h => by
    obtain ⟨p, hp, rfl⟩ := tOut b h
    exact hT p hp
  have aOut : a ∉ T := fun z => by
    have q := ha.symm.trans (tGet a z)
    cases q
  obtain ⟨H, eH⟩ : ∃ H : Hp, hLaw K T a { cls := .type "list", data := .seq vs.toArray } (ns.map V.int) = H := ⟨_, rfl⟩
  have inv : ∀ {b : Addr} {u : HO}, H b = some u → (b ∈ T ∧ u = .tbl #[]) ∨ (b = a ∧ K.lookup a = none ∧ u = .frz { cls := .type "list", data := .seq vs.toArray } (.lst (ns.map V.int))) := fun h => by
    rw [← eH] at h
    exact hLaw_inv h
  have hH : ∀ p ∈ cs, H p.2 = some (.tbl #[]) := fun p hp => by
    rw [← eH]
    exact hLaw_tab (tIn p hp)
  have hS : SqL K H a (ns.map V.int) := by
    cases hk : K.lookup a with
    | none => exact .inl (.inr ⟨_, by rw [← eH]; exact (if_neg aOut).trans (if_pos ⟨rfl, hk⟩)⟩)
    | some o =>
      have e := (KX a o hk).symm.trans ha
      cases e
      exact .inr ⟨_, vs.toArray, _, hk, rfl, rfl, rfl, by rw [List.size_toArray, lenV]; exact hl, by simpa using rv⟩
  have hok : HOk P w H s₁.heap := fun b u e => by
    rcases inv e with ⟨h1, rfl⟩ | ⟨rfl, _, rfl⟩
    · exact tGet b h1
    · exact ⟨ha, by rw [List.length_map]; exact hl, vs, _, rv, ha⟩
  -- what is neither the script nor a table isn't tracked
  have off : ∀ {b : Addr} {o : Obj}, s₁.heap.get? b = some o → (∀ us n, o.data ≠ .seq us n) → o.data ≠ .fields #[] → H b = none := fun {b o} e h1 h2 => by
    cases q : H b with
    | none => rfl
    | some u =>
      rcases inv q with ⟨g1, _⟩ | ⟨rfl, _, _⟩
      · rw [tGet b g1] at e
        cases e
        exact absurd rfl h2
      · rw [ha] at e
        cases e
        exact absurd rfl (h1 _ _)
  have nsK : ∀ {b : Addr} {m : Str → Option Value}, s₁.heap.Ns b m → (hidT s₁.heap H).Ns b m := fun {b m} z => by
    obtain ⟨o, es, ep, e, d, r⟩ := z
    exact ⟨o, es, ep, hidT_get e (off e (fun us n y => by rw [d] at y; cases y) fun y => by rw [d] at y; cases y), d, r⟩
  have hKb : K.In (hidT s₁.heap H) := fun b o e => hidT_get (KX b o e) (by
    cases q : H b with
    | none => rfl
    | some u =>
      rcases inv q with ⟨g1, _⟩ | ⟨rfl, g2, _⟩
      · obtain ⟨p, hp, rfl⟩ := tOut b g1
        rw [nT p hp] at e
        cases e
      · rw [g2] at e
        cases e)
  have hM : L2.Mod K mg (hidT s₁.heap H) := ⟨hKb, nsK hns, ⟨mb, nsK hb, hbb⟩, let ⟨mc, h1, h2⟩ := hlim; ⟨mc, nsK h1, h2⟩⟩
  have TB : ∀ p ∈ cs, LamX.TabB (hidT s₁.heap H) mg p.1 p.2 := fun p hp => by
    have hTp := hT p hp
    refine ⟨?_, ?_, fun z => ?_⟩
    · obtain ⟨o, us, file, tf, flags, tg, inF, text, tt, e1, r1, r2, r3, r4⟩ := C p hp
      exact ⟨o, us, file, tf, flags, tg, inF, text, tt, hidT_get e1 (off e1 (fun _ _ z => by rw [r2] at z; cases z) fun z => by
        rw [r2] at z
        cases z
        simp at r3), r1, r2, r3, r4⟩
    · obtain ⟨bm, ob, b1, b2, b3, b4, b5, b6⟩ := hbm
      refine ⟨bm, ob, b1, b2, fun y => ?_, fun y => ?_, hidT_get b3 (off b3 (fun _ _ z => by rw [b6] at z; cases z) fun z => by rw [b6] at z; cases z), b4, b5, b6⟩
      · obtain ⟨o, es, ep, e, hd, _⟩ := hns
        rw [y, e] at b3
        cases b3
        rw [hd] at b6
        cases b6
      · rw [y, hTp] at b3
        cases b3
        cases b6
    · obtain ⟨o, es, ep, e, hd, _⟩ := hns
      rw [z, hTp] at e
      cases e
      cases hd
  have e0 : Env0 P w K mg (hidT s₁.heap H) callerA [] s₁ H := ⟨rfl, hM, fun b o e => of_hidT e, Nat.le_of_eq (hidT_size _ _), trivial, fun b hb => absurd (show b ∈ ([] : List Addr) from hb) (by simp), hok, .of_eq hg⟩
  refine codeAny_mono ((F _ hKb (nsK hns) TB).grun callerA [] s₁ H ⟨[.ref a], []⟩ [.ref a] [.ref a] _ _ rfl hr e0 (hbind s₁ (.ref a)) (.cons rfl .nil) (hsp H hH hS)) fun r s' h => ?_
  match r, h with
  | .error e, h => exact (hCX H e s' h).elim
  | .ok .next, h => exact False.elim h
  | .ok .brk, h => exact False.elim h
  | .ok .cont, h => exact False.elim h
  | .ok (.ret u), h =>
    obtain ⟨v, H', os, bare, un, hok', r', q'⟩ := h
    cases (show v = .bl true from q')
    cases (show u = Value.bool true from r')
    have noF : ∀ b : Addr, b ∉ frs ([] : List Env) := fun b z => nomatch (show b ∈ ([] : List Addr) from z)
    have key : ∀ b o, b ∉ T → s₁.heap.get? b = some o → s'.heap.get? b = some o := fun b o nb e => by
      cases q : H b with
      | none => exact un.keep b o e q (noF b) (fun z => nomatch z)
      | some u =>
        rcases inv q with ⟨g1, _⟩ | ⟨rfl, _, rfl⟩
        · exact absurd g1 nb
        · obtain ⟨e2, _⟩ := hok' b _ (un.frzs b _ _ q)
          rw [ha] at e
          cases e
          exact e2
    have grown : ∀ p ∈ cs, ∃ more : Array Value, s'.heap.get? p.2 = some { cls := .none, data := .fields more } := fun p hp => by
      obtain ⟨more, z⟩ := un.tbls p.2 #[] (hH p hp)
      exact ⟨_, hok' p.2 _ z⟩
    refine ⟨rfl, ⟨fun b o e => ?_, fun b o e => ?_⟩, os, bare⟩
    · by_cases hb : b ∈ T
      · obtain ⟨p, hp, rfl⟩ := tOut b hb
        obtain ⟨more, hm⟩ := grown p hp
        rw [hT p hp] at e
        cases e
        exact .inr (.inl ⟨((C p hp).tab (hT p hp)).isCodeTable, rfl, #[], more, rfl, by rw [Array.empty_append]; exact hm⟩)
      · exact .inl (key b o hb e)
    · by_cases hb : b ∈ T
      · obtain ⟨p, hp, rfl⟩ := tOut b hb
        obtain ⟨more, hm⟩ := grown p hp
        exact ⟨_, hm⟩
      · exact ⟨o, key b o hb e⟩
end
/-- what is known of the law's promise at the head's heap -/
def LawAtG (l : PySem.W.OpenLaw) (w : World) (K : PySem.W.Frag) (CX : CXT) (k n : Nat) (x : Str) (mg : Str → Option Value) (fa : Addr) (h : Heap) : Prop :=
  ∃ (fd : FuncData) (cs : List (Addr × Addr)) (sp : Sp), (∀ p ∈ cs, h.get? p.2 = some { cls := .none, data := .fields #[] }) ∧ (∀ p ∈ cs, K.lookup p.2 = none) ∧ (∀ p ∈ cs, PySem.W.CodeHd h p.1 p.2) ∧ (∀ (s : Shared) (u : Value), BindsTo s fd ⟨[u], []⟩ [(x, u)]) ∧
    (∀ (H : Hp) (a : Addr) (ns : List Int), ns.length ≤ n → (∀ p ∈ cs, H p.2 = some (.tbl #[])) → SqL K H a (ns.map V.int) → sp [.ref a] H (fun v _ => v = .bl true) fun _ _ _ => False) ∧
    ∀ base : Heap, K.In base → base.Ns mainGlobals mg → (∀ p ∈ cs, LamX.TabB base mg p.1 p.2) → FnG l.prog w K mg base CX k fa fd [x] sp
theorem walk_ofG {l : PySem.W.OpenLaw} {n k : Nat} {q : Program} {loose : List Str} {XP : (Str → Option Value) → Heap → Prop} {YP : World → Heap → Prop} {d : DefRec} {CX : World → CXT} {x : Str}
    (hn : l.most = some n) (hn2 : n ≤ sizeLine) (hdf : d.params.defaults = []) (hr : Room k callerA)
    (F : ∀ (w : World) (mg : Str → Option Value) (fa : Addr) (h : Heap), YP w h → h.Ns mainGlobals mg → mg d.name = some (.ref fa) → ∃ K : PySem.W.Frag, K.In h ∧ LawAtG l w K (CX w) k n x mg fa h)
    (hCX : ∀ (w : World) (H : Hp) (s : Shared) (e : Value) (s' : Shared), CX w [] H s (fun _ _ _ => False) e s' → False) :
    PySem.W.WalkO q loose XP YP l.row.toRowW d [] (fun f vs => PySem.call f vs) := by
  refine Att.attach_callB hn hdf fun w s₀ s₁ mg mb fa o pm cd doc a vs ns G Y ho hd hcd hmg hobj hints hlen hbits hg => ?_
  obtain ⟨K, KX, fd, cs, sp, hT, nT, C, hb, hsp, hF⟩ := F w mg fa _ Y G.T.g hmg
  exact law_callG KX G.T.g G.T.b G.T.builtins G.T.nolimit hg hT nT C G.T.bmain hobj hints (Nat.le_trans hlen hn2) hr hF hb (fun H hH hS => hsp H a ns hlen hH hS) fun H e s' => hCX w H s₁ e s'
end TCX
/-! isinstance of a kept exception and a tuple of classes; promises joined. -/
namespace TCX
open PySem PySem.Spec PyProof.Rows L2
section
variable {X : Cx}
def rIsVT (K : PySem.W.Frag) : List V → Hp → VK → Prop := fun xs H Q => ∃ (a D tp : Addr) (cs : List V) (us : List Value) (b : Bool), xs = [.ref a, .ref tp] ∧ H a = some (ExV (.ref D) none a) ∧ ExcC K D ∧ H tp = some (.tup cs) ∧ Paired ClsV cs us ∧ PySem.W.kitAny K (.ref D) us = some b ∧ Q (.bl b) H
theorem call_isVT : CallR X (.builtin "isinstance") (rIsVT X.K) := by
  intro pins s σ H xs us Q I r h
  obtain ⟨a, D, tp, cs, ws, b, rfl, hH, C, hT, k, e, q⟩ := h
  obtain ⟨u1, u2, rfl, r1, r2⟩ := vals2 r
  cases (show u2 = Value.ref tp from r2)
  cases (show u1 = Value.ref a from r1)
  obtain ⟨oe, J⟩ := inst_of I hH
  obtain ⟨_, its, rv, o, h1, h2, n, h3⟩ := (show ObjOk X.prog X.w H s.heap tp (.tup cs) from I.hok tp _ hT)
  have e3 := ClsV.all k rv
  subst e3
  obtain ⟨oc, od, dt, sl⟩ := o
  simp only at h2 h3
  subst h2 h3
  exact PySem.W.kia_tup (PySem.W.handS_kitx_exc C.hg C.hk C.hs C.hd C.ha C.hn C.ht C.hm) I.kIn J h1 e (fun z => nomatch z) fun tk => ⟨.bl b, H, I.tok tk, rfl, q⟩
end
section
variable {P : Program} {w : World} {K : PySem.W.Frag} {mg : Str → Option Value} {base : Heap} {k : Nat} {f : Addr} {fd : FuncData} {ps : List Str} {sp sq : Sp}
/-- a def that lets nothing out may be asked where something might -/
theorem lift0 (F : FnOk P w K mg base CX0 k f fd ps sp) : FnOk P w K mg base (L2.CX P w) k f fd ps sp := by
  refine ⟨F.len, fun A outer s H args us vs Q E hr he hb hv hs => codeAny_mono (F.run A outer s H args us vs Q E hr he hb hv hs) fun r s' hq => ?_⟩
  match r, hq with
  | .error u, hq => exact (show False from hq).elim
  | .ok (.ret u), hq => exact hq
  | .ok .next, hq => exact hq
  | .ok .brk, hq => exact hq
  | .ok .cont, hq => exact hq
/-- two promises of one def -/
theorem both {CX : CXT} (F : FnOk P w K mg base CX k f fd ps sp) (G : FnOk P w K mg base CX k f fd ps sq) : FnOk P w K mg base CX k f fd ps (fun vs H Q E => sp vs H Q E ∨ sq vs H Q E) := by
  refine ⟨fun vs H Q E h => h.elim (F.len vs H Q E) (G.len vs H Q E), fun A outer s H args us vs Q E hr he hb hv hs => ?_⟩
  rcases hs with h | h
  · exact F.run A outer s H args us vs Q E hr he hb hv h
  · exact G.run A outer s H args us vs Q E hr he hb hv h
end
end TCX
namespace TCX
open PySem PySem.Spec PyProof.Rows L2
section
variable {prog : Program} {w : World} {A : Around} {E : Value → Shared → Prop} {s : Shared} {t : Addr} {xs : Array (Int × Tok)}
/-- what a new tuple iterator leaves -/
theorem tup_kept {h' : Heap} (hk : ∀ b o, b ∉ [s.heap.objs.size] → (s.heap.push { cls := .type "tuple_iterator", data := .fields #[.ref t, .int 0 0] }).get? b = some o → h'.get? b = some o) :
    ∀ b o, s.heap.get? b = some o → h'.get? b = some o := fun b o e => by
  refine hk b o (fun hm => ?_) (Heap.get?_push_of_some _ e)
  have := Heap.lt_size e
  rw [List.mem_singleton.mp hm] at this
  exact Nat.lt_irrefl _ this
theorem tup_below (ht : s.heap.IsTuple t (intItems xs)) : t ≠ s.heap.objs.size ∧ ∀ b ∈ [s.heap.objs.size, t], b < (s.heap.push { cls := .type "tuple_iterator", data := .fields #[.ref t, .int 0 0] }).objs.size := by
  obtain ⟨_, e, _⟩ := ht
  have hlt := Heap.lt_size e
  refine ⟨Nat.ne_of_lt hlt, fun b hb => ?_⟩
  rw [Heap.size_push]
  rcases List.mem_cons.mp hb with z | z
  · omega
  · rw [List.mem_singleton.mp z]
    exact Nat.lt_succ_of_lt hlt
theorem sum_tup {Q : Value → Shared → Prop} (hh : A.handled = none) (ht : s.heap.IsTuple t (intItems xs))
    (h : ∀ h' tk t', (∀ b o, s.heap.get? b = some o → h'.get? b = some o) → Q (.int (preSum (numAt xs) xs.size) t') { s with heap := h', toks := tk }) :
    wpAny (model prog w) A (call (.builtin "sum") [.ref t]) Q E s := by
  obtain ⟨hne, hb⟩ := tup_below ht
  refine call_sum_walkG (wpAny_pyIter_tuple ht ?_)
  refine ⟨_, [_, t], [_], _, _, _, numAt xs, rfl, Walks.tuple (A := A.in1) hh _ t hne (intItems xs), ⟨⟨_, Heap.get?_push_size _ rfl, rfl, rfl⟩, ht.push _⟩, hb, (fun _ _ => intItems_at), fun h' tk t' hk => ?_⟩
  have := h h' tk t' (tup_kept hk)
  simpa [intItems] using this
theorem max_tup {Q : Value → Shared → Prop} (hh : A.handled = none) (ht : s.heap.IsTuple t (intItems xs)) (hp : 0 < xs.size)
    (h : ∀ v h' tk, (intItems xs)[argBest (fun i j => decide (numAt xs i > numAt xs j)) (xs.size - 1)]? = some v → (∀ b o, s.heap.get? b = some o → h'.get? b = some o) → Q v { s with heap := h', toks := tk }) :
    wpAny (model prog w) A (call (.builtin "max") [.ref t]) Q E s := by
  obtain ⟨hne, hb⟩ := tup_below ht
  refine call_max_walk (wpAny_pyIter_tuple ht ?_)
  refine ⟨_, [_, t], [_], _, _, _, _, rfl, Walks.tuple (A := A.in1) hh _ t hne (intItems xs), ⟨⟨_, Heap.get?_push_size _ rfl, rfl, rfl⟩, ht.push _⟩, hb, by simpa [intItems] using hp, CmpOf.ints_gt (numAt xs) (fun _ _ => intItems_at), fun v h' tk hP hk => ?_⟩
  exact h v h' tk (by simpa [intItems] using hP) (tup_kept hk)
end
section
variable {X : Cx}
/-- sum(t), max(t) of a tuple of whole numbers -/
def rSumT (K : PySem.W.Frag) : List V → Hp → VK → Prop := fun vs H Q => ∃ (a : Addr) (ns : List Int), vs = [V.ref a] ∧ SqT K H a (ns.map V.int) ∧ Q (.int ns.sum) H
def rMaxT (K : PySem.W.Frag) : List V → Hp → VK → Prop := fun vs H Q => ∃ (a : Addr) (ns : List Int), vs = [V.ref a] ∧ SqT K H a (ns.map V.int) ∧ 0 < ns.length ∧ ∀ m, m ∈ ns → (∀ y, y ∈ ns → y ≤ m) → Q (.int m) H
theorem cr_sumT (hc : X.calm = true) : CallR X (.builtin "sum") (rSumT X.K) := by
  intro pins s σ H vs us Q I r h
  obtain ⟨a, ns, rfl, hs, q⟩ := h
  obtain ⟨its, rv, ht, _⟩ := I.tuple hs
  rw [Vals.ref1 r]
  have hi := rv.ints
  obtain ⟨xs, e⟩ := hi.allInts.items
  have hn : numsOf (intItems xs).toList = ns := by rw [← e]; exact hi.numsOf
  rw [nums_intItems] at hn
  rw [e] at ht
  refine sum_tup (I.ok.hd hc) ht fun h' tk t' hk => ?_
  rw [preSum_eq, List.take_of_length_le (by simp), hn]
  exact ⟨.int _, H, I.kept hk, ⟨_, rfl⟩, q⟩
theorem cr_maxT (hc : X.calm = true) : CallR X (.builtin "max") (rMaxT X.K) := by
  intro pins s σ H vs us Q I r h
  obtain ⟨a, ns, rfl, hs, hne, q⟩ := h
  obtain ⟨its, rv, ht, _⟩ := I.tuple hs
  rw [Vals.ref1 r]
  have hi := rv.ints
  obtain ⟨xs, e⟩ := hi.allInts.items
  have hn : numsOf (intItems xs).toList = ns := by rw [← e]; exact hi.numsOf
  rw [nums_intItems] at hn
  subst hn
  rw [e] at ht
  have hsz : 0 < xs.size := by simpa using hne
  refine max_tup (I.ok.hd hc) ht hsz fun v h' tk hv hk => ?_
  obtain ⟨t, rfl⟩ := intItems_at hv
  obtain ⟨h1, h2⟩ := argBest_gt (numAt xs) (xs.size - 1)
  refine ⟨.int _, H, I.kept hk, ⟨_, rfl⟩, q _ ?_ fun y hy => ?_⟩
  · rw [numAt_eq]
    exact PySem.getD_mem (by rw [List.length_map, Array.length_toList]; omega)
  · obtain ⟨j, hj, rfl⟩ := mem_getD hy
    rw [List.length_map, Array.length_toList] at hj
    rw [← numAt_eq]
    exact h2 j (by omega)
end
end TCX
namespace TC
open PySem PySem.Spec PyProof.Rows L2 TCA TCX
def iv (ns : List Int) : HO := .tup (ns.map V.int)
/-- the four triangles of six sizes -/
def QuadT (H : Hp) (r : Addr) (a b c d e f : Int) : Prop := ∃ t1 t2 t3 t4, H r = some (.tup [.ref t1, .ref t2, .ref t3, .ref t4]) ∧ H t1 = some (iv [a, b, c]) ∧ H t2 = some (iv [a, e, f]) ∧ H t3 = some (iv [d, b, f]) ∧ H t4 = some (iv [d, e, c])
def Jn (a b c d e f : Int) : Bool := canB a b c && (canB a e f && (canB d b f && canB d e c))
def firstJ (a b c d e f : Int) : Option Nat := [canB a b c, canB a e f, canB d b f, canB d e c].findIdx? (!·)
theorem first_at : ∀ {L : List Bool} {i : Nat}, (L.take i).all id = true → L[i]? = some false → L.findIdx? (!·) = some i
  | [], i, _, e => by simp at e
  | b :: L, 0, _, e => by
    have : b = false := by simpa using e
    subst this
    rfl
  | b :: L, i + 1, h, e => by
    have hb : b = true ∧ (L.take i).all id = true := by simpa using h
    obtain ⟨rfl, h2⟩ := hb
    have z := first_at (L := L) (i := i) h2 (by simpa using e)
    rw [List.findIdx?_cons]
    simp [z]
theorem first_none {a b c d e f : Int} : firstJ a b c d e f = none ↔ Jn a b c d e f = true := by
  unfold firstJ Jn
  cases canB a b c <;> cases canB a e f <;> cases canB d b f <;> cases canB d e c <;> simp [List.findIdx?_cons]
section
variable {P : Program} {w : World} {K : PySem.W.Frag} {mg : Str → Option Value} {base : Heap} {f : Addr} {fd : FuncData}
/-! ### triangles_of -/
/-! ### first_not_joined -/
end
end TC
namespace TC
open PySem PySem.Spec PyProof.Rows L2 TCA TCX
def quad (a b c d e f : Int) : List (List Int) := [[a, b, c], [a, e, f], [d, b, f], [d, e, c]]
def lows (a b c d e f : Int) : List Int := (quad a b c d e f).map fun l => l.sum / 2
def opps (a b c d e f : Int) : List Int := [(a + b + d + e) / 2, (b + c + e + f) / 2, (c + a + f + d) / 2]
def Srt (L M : List Int) : Prop := L.Perm M ∧ L.Pairwise (· ≤ ·)
theorem Srt.eq {L L' M : List Int} (h : Srt L M) (h' : Srt L' M) : L = L' := List.Perm.eq_of_pairwise (fun a b _ _ h1 h2 => Int.le_antisymm h1 h2) h.2 h'.2 (h.1.trans h'.1.symm)
/-- the pair of two rising tuples -/
def FormT (H : Hp) (r : Addr) (L1 L2 : List Int) : Prop := ∃ r1 r2, H r = some (.tup [.ref r1, .ref r2]) ∧ H r1 = some (iv L1) ∧ H r2 = some (iv L2)
theorem FormT.same {H H' : Hp} {r : Addr} {L1 L2 : List Int} (h : FormT H r L1 L2) (s : Same H H') : FormT H' r L1 L2 := by
  obtain ⟨r1, r2, a, b, c⟩ := h
  exact ⟨r1, r2, s _ _ a, s _ _ b, s _ _ c⟩
section
variable {P : Program} {w : World} {K : PySem.W.Frag} {mg : Str → Option Value} {base : Heap} {f : Addr} {fd : FuncData}
/-! ### form_of -/
abbrev nForm : List Str := ["sizes", "a", "b", "c", "d", "e", "f", "triangles", "opposites", "triangle"]
end
end TC
namespace TC
open PySem PySem.Spec PyProof.Rows L2 TCA TCX
/-! ### forms as data -/
def dT (L : List Int) : PyData := .tuple (dInts L)
def dForm (L1 L2 : List Int) : PyData := .tuple [dT L1, dT L2]
theorem FormT.dp {K : PySem.W.Frag} {H : Hp} {r : Addr} {L1 L2 : List Int} (h : FormT H r L1 L2) : Dp K H (.ref r) (dForm L1 L2) := by
  obtain ⟨r1, r2, a, b, c⟩ := h
  exact .tup (SqT.of a) (.cons (.tup (SqT.of b) (dpAll_ints L1)) (.cons (.tup (SqT.of c) (dpAll_ints L2)) .nil))
theorem ints_lay : ∀ L : List Int, PyData.canLayAll0 (dInts L) = true ∧ PyData.depthAll (dInts L) ≤ 0
  | [] => ⟨rfl, Nat.le_refl _⟩
  | x :: L => by
    obtain ⟨h1, h2⟩ := ints_lay L
    refine ⟨?_, ?_⟩
    · show (PyData.canLay0 (.int x) && PyData.canLayAll0 (dInts L)) = true
      rw [h1]
      rfl
    · show max (PyData.depth (.int x)) (PyData.depthAll (dInts L)) ≤ 0
      exact Nat.max_le.mpr ⟨Nat.le_refl 0, h2⟩
theorem form_shaped (L1 L2 : List Int) : SeqAt.shaped (dForm L1 L2) = true := by
  obtain ⟨a1, a2⟩ := ints_lay L1
  obtain ⟨b1, b2⟩ := ints_lay L2
  show ((PyData.canLayAll0 (dInts L1) && (PyData.canLayAll0 (dInts L2) && true)) && decide (max (PyData.depthAll (dInts L1) + 1) (max (PyData.depthAll (dInts L2) + 1) 0) + 1 ≤ 64)) = true
  rw [a1, b1, decide_eq_true (by omega)]
  rfl
theorem ints_eqv : ∀ L M : List Int, PyData.eqvAll (dInts L) (dInts M) = decide (L = M)
  | [], [] => rfl
  | [], _ :: _ => rfl
  | _ :: _, [] => rfl
  | x :: L, y :: M => by
    show (PyData.eqv (.int x) (.int y) && PyData.eqvAll (dInts L) (dInts M)) = _
    rw [ints_eqv L M]
    simp only [PyData.eqv]
    by_cases h1 : x = y <;> by_cases h2 : L = M <;> simp [h1, h2]
theorem form_eqv (L1 L2 M1 M2 : List Int) : PyData.eqv (dForm L1 L2) (dForm M1 M2) = (decide (L1 = M1) && decide (L2 = M2)) := by
  show (PyData.eqvAll (dInts L1) (dInts M1) && (PyData.eqvAll (dInts L2) (dInts M2) && true)) = _
  rw [ints_eqv, ints_eqv, Bool.and_true]
end TC
namespace TCX
open PySem PySem.Spec PyProof.Rows L2
/-- a promise kept as it is said: the unifier does not open it -/
structure Box (sp : Sp) (vs : List V) (H : Hp) (Q : VK) (E : XK) : Prop where
  out : sp vs H Q E
theorem boxed {P : Program} {w : World} {K : PySem.W.Frag} {mg : Str → Option Value} {base : Heap} {CX : CXT} {k : Nat} {f : Addr} {fd : FuncData} {ps : List Str} {sp : Sp} (F : FnOk P w K mg base CX k f fd ps sp) : FnOk P w K mg base CX k f fd ps (Box sp) :=
  ⟨fun vs H Q E h => F.len vs H Q E h.out, fun A outer s H args us vs Q E hr he hb hv hs => F.run A outer s H args us vs Q E hr he hb hv hs.out⟩
end TCX
namespace TC
open PySem PySem.Spec PyProof.Rows L2 TCA TCX
theorem fits_can (a b c : Int) : fitsB a b c = canB a b c := by
  rw [Bool.eq_iff_iff, fits_iff, canB_iff]
  omega
/-- the four triangles, a list -/
def QuadL (H : Hp) (r : Addr) (a b c d e f : Int) : Prop := ∃ t1 t2 t3 t4, H r = some (.lst [.ref t1, .ref t2, .ref t3, .ref t4]) ∧ H t1 = some (iv [a, b, c]) ∧ H t2 = some (iv [a, e, f]) ∧ H t3 = some (iv [d, b, f]) ∧ H t4 = some (iv [d, e, c])
section
variable {P : Program} {w : World} {K : PySem.W.Frag} {mg : Str → Option Value} {base : Heap} {f : Addr} {fd : FuncData} {CS CT : Addr}
/-! ### _law_triples -/
abbrev nTriples : List Str := ["_law_sizes_here", "_law_a", "_law_b", "_law_c", "_law_d", "_law_e", "_law_f"]
end
end TC
namespace TC
open PySem PySem.Spec PyProof.Rows L2 TCA TCX
theorem quad_get {H : Hp} {t1 t2 t3 t4 : Addr} {a b c d e g : Int} (q1 : H t1 = some (iv [a, b, c])) (q2 : H t2 = some (iv [a, e, g])) (q3 : H t3 = some (iv [d, b, g])) (q4 : H t4 = some (iv [d, e, c])) (i : Nat) (x : V) (hx : ([.ref t1, .ref t2, .ref t3, .ref t4] : List V)[i]? = some x) : ∃ u l, x = .ref u ∧ H u = some (iv l) ∧ (quad a b c d e g)[i]? = some l ∧ u ∈ [t1, t2, t3, t4] := by
  match i, hx with
  | 0, hx => exact ⟨t1, _, (Option.some.inj hx).symm, q1, rfl, by simp⟩
  | 1, hx => exact ⟨t2, _, (Option.some.inj hx).symm, q2, rfl, by simp⟩
  | 2, hx => exact ⟨t3, _, (Option.some.inj hx).symm, q3, rfl, by simp⟩
  | 3, hx => exact ⟨t4, _, (Option.some.inj hx).symm, q4, rfl, by simp⟩
  | n + 4, hx => cases hx
theorem quad_three {a b c d e g : Int} {i : Nat} {l : List Int} (h : (quad a b c d e g)[i]? = some l) : ∃ x y z, l = [x, y, z] := by
  match i, h with
  | 0, h => exact ⟨_, _, _, (Option.some.inj h).symm⟩
  | 1, h => exact ⟨_, _, _, (Option.some.inj h).symm⟩
  | 2, h => exact ⟨_, _, _, (Option.some.inj h).symm⟩
  | 3, h => exact ⟨_, _, _, (Option.some.inj h).symm⟩
  | n + 4, h => cases h
def fit3 (l : List Int) : Bool := canB (l.getD 0 0) (l.getD 1 0) (l.getD 2 0)
theorem jn_all (a b c d e g : Int) : Jn a b c d e g = (quad a b c d e g).all fit3 := by
  simp [Jn, quad, fit3]
section
variable {P : Program} {w : World} {K : PySem.W.Frag} {mg : Str → Option Value} {base : Heap} {f : Addr} {fd : FuncData}
/-! ### _law_halved -/
abbrev nHalved : List Str := ["_law_sizes_here", "_law_a", "_law_b", "_law_c", "_law_d", "_law_e", "_law_f", "_law_opposite", "_law_some"]
end
end TC
namespace TC
open PySem PySem.Spec PyProof.Rows L2 TCA TCX
section
variable {P : Program} {w : World} {K : PySem.W.Frag} {mg : Str → Option Value} {base : Heap} {f : Addr} {fd : FuncData}
/-! ### _law_all_fit -/
/-- the tuples kept: addresses and what they hold -/
def KeptAt (H : Hp) : List Addr → List (List Int) → Prop
  | [], [] => True
  | u :: us, l :: ls => H u = some (iv l) ∧ KeptAt H us ls
  | _, _ => False
theorem KeptAt.same {H H' : Hp} (s : Same H H') : ∀ {us : List Addr} {ls : List (List Int)}, KeptAt H us ls → KeptAt H' us ls
  | [], [], _ => trivial
  | _ :: _, _ :: _, h => ⟨s _ _ h.1, KeptAt.same s h.2⟩
  | [], _ :: _, h => h
  | _ :: _, [], h => h
theorem KeptAt.len {H : Hp} : ∀ {us : List Addr} {ls : List (List Int)}, KeptAt H us ls → us.length = ls.length
  | [], [], _ => rfl
  | _ :: _, _ :: _, h => congrArg (· + 1) h.2.len
  | [], _ :: _, h => h.elim
  | _ :: _, [], h => h.elim
theorem KeptAt.snoc {H : Hp} {u : Addr} {l : List Int} (hu : H u = some (iv l)) : ∀ {us : List Addr} {ls : List (List Int)}, KeptAt H us ls → KeptAt H (us ++ [u]) (ls ++ [l])
  | [], [], _ => ⟨hu, trivial⟩
  | _ :: _, _ :: _, h => ⟨h.1, KeptAt.snoc hu h.2⟩
  | [], _ :: _, h => h.elim
  | _ :: _, [], h => h.elim
theorem KeptAt.dp {H : Hp} : ∀ {us : List Addr} {ls : List (List Int)}, KeptAt H us ls → DpAll K H (us.map V.ref) (ls.map dT)
  | [], [], _ => .nil
  | _ :: _, l :: _, h => .cons (.tup (SqT.of h.1) (dpAll_ints l)) (KeptAt.dp h.2)
  | [], _ :: _, h => h.elim
  | _ :: _, [], h => h.elim
theorem kept_lay : ∀ ls : List (List Int), PyData.canLayAll0 (ls.map dT) = true ∧ PyData.depthAll (ls.map dT) ≤ 1
  | [] => ⟨rfl, Nat.zero_le _⟩
  | x :: L => by
    obtain ⟨h1, h2⟩ := kept_lay L
    obtain ⟨a1, a2⟩ := ints_lay x
    refine ⟨?_, ?_⟩
    · show (PyData.canLayAll0 (dInts x) && PyData.canLayAll0 (L.map dT)) = true
      rw [h1, a1]
      rfl
    · show max (PyData.depthAll (dInts x) + 1) (PyData.depthAll (L.map dT)) ≤ 1
      exact Nat.max_le.mpr ⟨by omega, h2⟩
theorem kept_shaped (ls : List (List Int)) : SeqAt.shaped (.list (ls.map dT)) = true := by
  obtain ⟨h1, h2⟩ := kept_lay ls
  show (PyData.canLayAll0 (ls.map dT) && decide (PyData.depthAll (ls.map dT) + 1 ≤ 64)) = true
  rw [h1, decide_eq_true (by omega)]
  rfl
theorem kept_eqv (ls : List (List Int)) : PyData.eqv (.list (ls.map dT)) (.list []) = decide (ls = []) := by
  cases ls with
  | nil => rfl
  | cons x L => rfl
abbrev nAllFit : List Str := ["_law_sizes_here", "_law_some"]
end
end TC
namespace TC
open PySem PySem.Spec PyProof.Rows L2 TCA TCX
section
variable {P : Program} {w : World} {K : PySem.W.Frag} {mg : Str → Option Value} {base : Heap} {f fD fT : Addr} {fd fdD fdT : FuncData}
/-! ### _law_sizes -/
def spSizesL : Sp := fun vs H Q _ => ∃ (p c : Addr) (ms : List Int) (n h : Int), vs = [.ref p, .int h] ∧ PenAt H p c ms n ∧ 0 ≤ n ∧ n ≤ 800000 ∧ 0 ≤ h ∧ h ≤ 100 ∧
  ∀ (r : Addr) (a b d n' : Int) H', 0 ≤ a → a ≤ h → 0 ≤ b → b ≤ h → d ∈ thirdL a b h → n ≤ n' → n' ≤ n + 3 → PenAt H' p c ms n' → SameBut p H H' → H' r = some (iv [a, b, d]) → Q (.ref r) H'
abbrev nSizesL : List Str := ["_law_pen_here", "_law_high", "_law_a", "_law_b"]
theorem scSizesL : FnScope nSizesL ["_law_pen_here", "_law_high"] (defScope sSizesL) := ⟨rfl, rfl, rfl, by decide +kernel, rfl, by decide +kernel, by decide +kernel⟩
theorem ok_sizesL (F : FnP K "_law_sizes" sSizesL f fd) (GD : FnOk P w K mg base CX0 1 fD fdD ["_law_pen_here", "_law_many"] spDraw) (bD : L2.Binds K fdD ["_law_pen_here", "_law_many"] []) (kD : PySem.W.keepIn K (.ref fD) = true) (gD : mg "_law_draw" = some (.ref fD))
    (GT : FnOk P w K mg base CX0 2 fT fdT ["_law_pen_here", "_law_a", "_law_b", "_law_high"] spThird) (bT : L2.Binds K fdT ["_law_pen_here", "_law_a", "_law_b", "_law_high"] []) (kT : PySem.W.keepIn K (.ref fT) = true) (gT : mg "_law_third" = some (.ref fT)) :
    FnOk P w K mg base CX0 3 f fd ["_law_pen_here", "_law_high"] spSizesL := by
  refine F.ok scSizesL (fun vs H Q E h => ?_) (fun cdv A outer s H vs Q E hr h => ?_)
  · obtain ⟨p, c, ms, n, h, rfl, _⟩ := h
    rfl
  · obtain ⟨p, c, ms, n, h, rfl, pen, n0, n8, h0, h1, q⟩ := h
    have hr1 := hr.mono (j := 1) (by decide)
    refine ⟨_, PSs.nox (pss_cons (ps_set (i := 2) scSizesL.nd rfl (.inl rfl) (pe_call GD hr1 (by rfl) gD kD bD .nil pass0 (pa_cons (pv 0) (pa_cons (pe_op op_add (pv 1) pe_int) pa_nil))))
      (pss_cons (ps_set (i := 3) scSizesL.nd rfl (.inl rfl) (pe_call GD hr1 (by rfl) gD kD bD .nil pass0 (pa_cons (pv 0) (pa_cons (pe_op op_add (pv 1) pe_int) pa_nil))))
      (pss_one (ps_ret (pe_tup (pa_cons (pv 2) (pa_cons (pv 3) (pa_cons (pe_call GT hr (by rfl) gT kT bT .nil pass0 (pa_cons (pv 0) (pa_cons (pv 2) (pa_cons (pv 3) (pa_cons (pv 1) pa_nil))))) pa_nil)))))))), ?_⟩
    have big : h + 1 < 2 ^ 1000 := Int.lt_of_lt_of_le (show h + 1 < 1000 by omega) (by decide +kernel)
    refine ⟨_, rfl, _, rfl, h, 1, rfl, rfl, p, c, ms, n, h + 1, rfl, pen, n0, by omega, by omega, big, fun a n1 H1 a0 a1 b0 b1 p1 s1 => ?_⟩
    refine ⟨_, rfl, _, rfl, h, 1, rfl, rfl, p, c, ms, n1, h + 1, rfl, p1, by omega, by omega, by omega, big, fun b n2 H2 c0 c1 d0 d1 p2 s2 => ?_⟩
    refine ⟨_, rfl, _, rfl, _, rfl, _, rfl, _, rfl, _, rfl, p, c, ms, n2, a, b, h, rfl, p2, by omega, by omega, a0, c0, h0, by omega, fun d n3 H3 hd e0 e1 p3 s3 => ?_⟩
    refine ⟨by show 3 ≤ sizeLine; decide, fun r hr' => ?_⟩
    have s4 := same_upd (o := iv [a, b, d]) hr'
    exact q r a b d n3 _ a0 (by omega) c0 (by omega) hd (by omega) (by omega) (p3.same s4) (SameBut.trans (SameBut.trans s1 s2) (SameBut.trans s3 (Same.but s4))) upd_same
end
end TC
namespace TC
set_option exponentiation.threshold 20000
open PySem PySem.Spec PyProof.Rows L2 TCA TCX
section
variable {P : Program} {w : World} {K : PySem.W.Frag} {mg : Str → Option Value} {base : Heap} {f fD fZ fP : Addr} {fd fdD fdZ fdP : FuncData} {C fI fQ : Addr}
/-! ### _law_case -/
def spCaseL : Sp := fun vs H Q _ => ∃ (p c : Addr) (ms : List Int) (n i : Int), vs = [.ref p, .int i] ∧ PenAt H p c ms n ∧ 0 ≤ n ∧ n ≤ 700000 ∧
  ∀ (t : Addr) (a u b v d w n' : Int) H', PairP a u → PairP b v → PairP d w → ThreeAt H' t (a, u) (b, v) (d, w) → n ≤ n' → n' ≤ n + 20 → PenAt H' p c ms n' → SameBut p H H' → Q (.ref t) H'
abbrev nCaseL : List Str := ["_law_pen_here", "_law_turn", "_law_sizes_here", "_law_one", "_law_other", "_law_third_here"]
theorem scCaseL : FnScope nCaseL ["_law_pen_here", "_law_turn"] (defScope sCaseL) := ⟨rfl, rfl, rfl, by decide +kernel, rfl, by decide +kernel, by decide +kernel⟩
theorem ok_caseL (F : FnP K "_law_case" sCaseL f fd) (GD : FnOk P w K mg base CX0 1 fD fdD ["_law_pen_here", "_law_many"] spDraw) (bD : L2.Binds K fdD ["_law_pen_here", "_law_many"] []) (kD : PySem.W.keepIn K (.ref fD) = true) (gD : mg "_law_draw" = some (.ref fD))
    (GS : FnOk P w K mg base CX0 3 fZ fdZ ["_law_pen_here", "_law_high"] spSizesL) (bS : L2.Binds K fdZ ["_law_pen_here", "_law_high"] []) (kS : PySem.W.keepIn K (.ref fZ) = true) (gS : mg "_law_sizes" = some (.ref fZ))
    (GPa : FnOk P w K mg base CX0 2 fP fdP ["_law_pen_here", "_law_sizes_here"] spPairs) (bPa : L2.Binds K fdP ["_law_pen_here", "_law_sizes_here"] []) (kPa : PySem.W.keepIn K (.ref fP) = true) (gPa : mg "_law_pairs" = some (.ref fP)) (gint : mg "int" = none) :
    FnOk P w K mg base CX0 4 f fd ["_law_pen_here", "_law_turn"] spCaseL := by
  refine F.ok scCaseL (fun vs H Q E h => ?_) (fun cdv A outer s H vs Q E hr h => ?_)
  · obtain ⟨_, _, _, _, _, rfl, _⟩ := h
    rfl
  obtain ⟨p, c, ms, n, tn, rfl, hp, n0, n1, q⟩ := h
  have hr1 := hr.mono (j := 1) (by decide)
  have hr2 := hr.mono (j := 2) (by decide)
  have hr3 := hr
  refine ⟨_, PSs.nox (C8.pss_cut (ps_set (i := 2) scCaseL.nd rfl (.inl rfl) (pe_call GS hr3 (by rfl) gS kS bS .nil pass0 (pa_cons (pv 0) (pa_cons (pe_ix ix_list (pe_lst (pa_cons pe_int (pa_cons pe_int (pa_cons pe_int (pa_cons (pe_ix ix_list (pe_lst (pa_cons pe_int (pa_cons pe_int pa_nil))) (pe_callTy call_int1 (by rfl) gint (by decide +kernel) (pa_cons (pe_cmpR op_eq (pv 1) pe_int (nomark _)) pa_nil)) (fun _ _ => rfl)) pa_nil))))) (pe_call GD hr1 (by rfl) gD kD bD .nil pass0 (pa_cons (pv 0) (pa_cons pe_int pa_nil))) (fun _ _ => rfl)) pa_nil))))
      (C8.pss_cut (ps_asg (pe_call GPa hr2 (by rfl) gPa kPa bPa .nil pass0 (pa_cons (pv 0) (pa_cons (pv 2) pa_nil))) (pg_tup rfl (pgs_cons (pg_name (i := 3) scCaseL.nd rfl (.inl rfl)) (pgs_cons (pg_name (i := 4) scCaseL.nd rfl (.inl rfl)) (pgs_cons (pg_name (i := 5) scCaseL.nd rfl (.inl rfl)) pgs_nil)))))
      (C8.pss_cut (ps_if (pt_cmpR op_eq (pe_call GD hr1 (by rfl) gD kD bD .nil pass0 (pa_cons (pv 0) (pa_cons pe_int pa_nil))) pe_int (nomark _)) (pss_one (ps_set (i := 5) scCaseL.nd rfl (.inl rfl) (pe_ix ix_list (pe_lst (pa_cons (pe_tup (pa_cons (pe_ix ix_tup (pv 5) pe_int (fun _ _ => rfl)) (pa_cons (pe_op op_sub pe_int (pe_ix ix_tup (pv 5) pe_int (fun _ _ => rfl))) pa_nil))) (pa_cons (pe_tup (pa_cons (pe_op op_add (pe_ix ix_tup (pv 5) pe_int (fun _ _ => rfl)) (pe_op op_mul pe_int (pe_callTy call_int1 (by rfl) gint (by decide +kernel) (pa_cons (pe_cmpR op_lt (pe_ix ix_tup (pv 5) pe_int (fun _ _ => rfl)) pe_int (nomark _)) pa_nil)))) (pa_cons (pe_ix ix_tup (pv 5) pe_int (fun _ _ => rfl)) pa_nil))) pa_nil))) (pe_call GD hr1 (by rfl) gD kD bD .nil pass0 (pa_cons (pv 0) (pa_cons pe_int pa_nil))) (fun _ _ => rfl)))) pss_nil)
      (pss_one (ps_ret (pe_tup (pa_cons (pv 3) (pa_cons (pv 4) (pa_cons (pv 5) pa_nil))))))))), ?_⟩
  -- sizes
  refine ⟨fun σ H2 => ∃ (t : Addr) (a b d n2 : Int), σ = [some (.ref p), some (.int tn), some (.ref t), none, none, none] ∧ 0 ≤ a ∧ a ≤ 40 ∧ 0 ≤ b ∧ b ≤ 40 ∧ 0 ≤ d ∧ d ≤ 40 ∧ fitsB a b d = true ∧ H2 t = some (.tup [.int a, .int b, .int d]) ∧ n ≤ n2 ∧ n2 ≤ n + 10 ∧ PenAt H2 p c ms n2 ∧ SameBut p H H2, ?_, fun σ H2 hh => ?_⟩
  · refine ⟨_, rfl, by show 2 ≤ sizeLine; decide, fun l1 hl1 => ?_⟩
    have z1 := same_upd (o := .lst [.int 9, .int 40]) hl1
    obtain ⟨hg, eg, hv⟩ : ∃ hg : Int, atI [V.int 9, V.int 40] (if decide (V.int tn = V.int 0) = true then 1 else 0) = some (.int hg) ∧ (hg = 9 ∨ hg = 40) := by
      split
      · exact ⟨40, atI_nat (j := 1) rfl, .inr rfl⟩
      · exact ⟨9, atI_nat (j := 0) rfl, .inl rfl⟩
    refine ⟨_, rfl, rfl, .inr ⟨_, rfl, l1, [.int 9, .int 40], _, _, rfl, rfl, SqL.of upd_same, eg, ?_⟩⟩
    refine ⟨by show 4 ≤ sizeLine; decide, fun l0 hl0 => ?_⟩
    have z0 := same_upd (o := .lst [.int 4, .int 6, .int 9, .int hg]) hl0
    refine ⟨_, rfl, p, c, ms, n, 4, rfl, (hp.same z1).same z0, n0, by omega, by decide, by decide, fun e n1' H1 e0 e1 x0 x1 p1 s1 => ?_⟩
    have hL := s1 _ _ (PenAt.ne (hp.same z1) hl0) upd_same
    obtain ⟨h, hh, h0, h1⟩ : ∃ z : Int, atI [V.int 4, V.int 6, V.int 9, V.int hg] e = some (.int z) ∧ 0 ≤ z ∧ z ≤ 40 := by
      have : e = 0 ∨ e = 1 ∨ e = 2 ∨ e = 3 := by omega
      rcases this with rfl | rfl | rfl | rfl
      · exact ⟨4, atI_nat (j := 0) rfl, by decide, by decide⟩
      · exact ⟨6, atI_nat (j := 1) rfl, by decide, by decide⟩
      · exact ⟨9, atI_nat (j := 2) rfl, by decide, by decide⟩
      · exact ⟨hg, atI_nat (j := 3) rfl, by omega, by omega⟩
    refine ⟨l0, _, e, _, rfl, rfl, SqL.of hL, hh, p, c, ms, n1', h, rfl, p1, by omega, by omega, h0, by omega, fun t a b d n2 H2 a0 a1 b0 b1 hd x2 x3 p2 s2 ht => ?_⟩
    obtain ⟨d0, d1, hf⟩ := third_fits a0 a1 b0 b1 hd
    exact ⟨t, a, b, d, n2, rfl, a0, by omega, b0, by omega, d0, by omega, hf, ht, by omega, by omega, p2, ((Same.but (z1.trans z0)).trans s1).trans s2⟩
  obtain ⟨t, a, b, d, n2, rfl, a0, a1, b0, b1, d0, d1, hf, ht, x2, x3, p2, s2⟩ := hh
  refine ⟨fun σ H3 => ∃ (q1 q2 q3 : Addr) (u v w n3 : Int), σ = [some (.ref p), some (.int tn), some (.ref t), some (.ref q1), some (.ref q2), some (.ref q3)] ∧ PairP a u ∧ PairP b v ∧ PairP d w ∧ H3 q1 = some (pairO (a, u)) ∧ H3 q2 = some (pairO (b, v)) ∧ H3 q3 = some (pairO (d, w)) ∧ n ≤ n3 ∧ n3 ≤ n + 14 ∧ PenAt H3 p c ms n3 ∧ SameBut p H H3, ?_, fun σ H3 hh => ?_⟩
  · refine ⟨_, rfl, _, rfl, p, c, t, ms, n2, a, b, d, rfl, p2, by omega, by omega, ht, a0, a1, b0, b1, d0, d1, hf, fun t' u v w n3 H3 P1 P2 P3 h3 x4 x5 p3 s3 => ?_⟩
    obtain ⟨q1, q2, q3, g0, g1, g2, g3⟩ := h3
    exact ⟨t', _, rfl, SqT.of g0, rfl, _, _, rfl, _, _, rfl, _, _, rfl, rfl, q1, q2, q3, u, v, w, n3, rfl, P1, P2, P3, g1, g2, g3, by omega, by omega, p3, s2.trans s3⟩
  obtain ⟨q1, q2, q3, u, v, w, n3, rfl, P1, P2, P3, g1, g2, g3, x4, x5, p3, s3⟩ := hh
  refine ⟨fun σ H4 => ∃ (q4 : Addr) (d' w' n' : Int), σ = [some (.ref p), some (.int tn), some (.ref t), some (.ref q1), some (.ref q2), some (.ref q4)] ∧ PairP d' w' ∧ H4 q1 = some (pairO (a, u)) ∧ H4 q2 = some (pairO (b, v)) ∧ H4 q4 = some (pairO (d', w')) ∧ n ≤ n' ∧ n' ≤ n + 18 ∧ PenAt H4 p c ms n' ∧ SameBut p H H4, ?_, fun σ H4 hh => ?_⟩
  · refine ⟨_, rfl, p, c, ms, n3, 5, rfl, p3, by omega, by omega, by decide, by decide, fun e n4 H4 e0 e1 x6 x7 p4 s4 => ?_⟩
    have k1 := tup_but s4 p3 g1
    have k2 := tup_but s4 p3 g2
    have k3 := tup_but s4 p3 g3
    refine ⟨rfl, _, rfl, ite2 (fun _ => ?_) fun _ => ⟨q3, d, w, n4, rfl, P3, k1, k2, k3, by omega, by omega, p4, s3.trans s4⟩⟩
    refine ⟨_, rfl, q3, _, 0, _, rfl, rfl, SqT.of k3, atI_nat (j := 0) rfl, _, rfl, q3, _, 1, _, rfl, rfl, SqT.of k3, atI_nat (j := 1) rfl, 0, w, rfl, rfl, by show 2 ≤ sizeLine; decide, fun r1 hr1' => ?_⟩
    have y1 := same_upd (o := .tup [.int d, .int (0 - w)]) hr1'
    have k3' := y1 _ _ k3
    refine ⟨_, rfl, q3, _, 0, _, rfl, rfl, SqT.of k3', atI_nat (j := 0) rfl, _, rfl, q3, _, 0, _, rfl, rfl, SqT.of k3', atI_nat (j := 0) rfl, d, 39, rfl, rfl, .inr ⟨_, rfl, 2, _, rfl, rfl, cmul_r (by split <;> decide) (by split <;> decide), d, _, rfl, rfl, _, rfl, q3, _, 1, _, rfl, rfl, SqT.of k3', atI_nat (j := 1) rfl, by show 2 ≤ sizeLine; decide, fun r2 hr2' => ?_⟩⟩
    obtain ⟨d2, ed2, hd2⟩ : ∃ d2 : Int, d + 2 * (if decide (d < 39) = true then 1 else 0) = d2 ∧ PairP d2 w := by
      obtain ⟨c0, c1, c2, c3, c4⟩ := P3
      refine ⟨_, rfl, ?_⟩
      by_cases z : d < 39
      · rw [decide_eq_true z, if_pos rfl]
        exact ⟨by omega, by omega, by omega, by omega, by omega⟩
      · rw [decide_eq_false z]
        exact ⟨by show 0 ≤ d + 2 * 0; omega, by show d + 2 * 0 ≤ 40; omega, by show -(d + 2 * 0) ≤ w; omega, by show w ≤ d + 2 * 0; omega, by show (d + 2 * 0 - w) % 2 = 0; omega⟩
    have y2 := same_upd (o := .tup [.int (d + 2 * (if decide (d < 39) = true then 1 else 0)), .int w]) hr2'
    have e1 : (upd (upd H4 r1 (.tup [.int d, .int (0 - w)])) r2 (.tup [.int (d + 2 * (if decide (d < 39) = true then 1 else 0)), .int w])) r1 = some (pairO (d, 0 - w)) := y2 _ _ upd_same
    have e2 : (upd (upd H4 r1 (.tup [.int d, .int (0 - w)])) r2 (.tup [.int (d + 2 * (if decide (d < 39) = true then 1 else 0)), .int w])) r2 = some (pairO (d2, w)) := by
      rw [upd_same, ed2]
      rfl
    have sy := y1.trans y2
    refine ⟨by show 2 ≤ sizeLine; decide, fun l hl => ?_⟩
    have y3 := same_upd (o := .lst [.ref r1, .ref r2]) hl
    have pl := (p4.same sy).same y3
    refine ⟨_, rfl, p, c, ms, n4, 2, rfl, pl, by omega, by omega, by decide, by decide, fun y n5 H5 z0 z1 x8 x9 p5 s5 => ?_⟩
    have m1 := tup_but s5 pl (y3 _ _ e1)
    have m2 := tup_but s5 pl (y3 _ _ e2)
    have m3 := s5 _ _ (PenAt.ne (p4.same sy) hl) upd_same
    have m4 := tup_but s5 pl (y3 _ _ (sy _ _ k1))
    have m5 := tup_but s5 pl (y3 _ _ (sy _ _ k2))
    have sC : SameBut p H H5 := (s3.trans s4).trans ((Same.but (sy.trans y3)).trans s5)
    have pb : PairP d (0 - w) := by
      obtain ⟨c0, c1, c2, c3, c4⟩ := P3
      exact ⟨c0, c1, by omega, by omega, by omega⟩
    have : y = 0 ∨ y = 1 := by omega
    rcases this with rfl | rfl
    · exact ⟨l, _, 0, _, rfl, rfl, SqL.of m3, atI_nat (j := 0) rfl, r1, d, 0 - w, n5, rfl, pb, m4, m5, m1, by omega, by omega, p5, sC⟩
    · exact ⟨l, _, 1, _, rfl, rfl, SqL.of m3, atI_nat (j := 1) rfl, r2, d2, w, n5, rfl, hd2, m4, m5, m2, by omega, by omega, p5, sC⟩
  obtain ⟨q4, d', w', n', rfl, P4, g1, g2, g4, x6, x7, p4, s4⟩ := hh
  refine ⟨_, rfl, _, rfl, _, rfl, by show 3 ≤ sizeLine; decide, fun t5 ht5 => ?_⟩
  have s5 := same_upd (o := .tup [.ref q1, .ref q2, .ref q4]) ht5
  exact q t5 a u b v d' w' n' _ P1 P2 P4 ⟨q1, q2, q4, upd_same, s5 _ _ g1, s5 _ _ g2, s5 _ _ g4⟩ x6 (by omega) (p4.same s5) (s4.trans (Same.but s5))
end
end TC
namespace TC
open PySem PySem.Spec PyProof.Rows L2 TCA
section
variable {X : Cx}
/-- sorted(d), the keys whole numbers, up to a thousand of them -/
theorem call_sortedMany (cm : X.calm = true) : CallR X (.builtin "sorted") (fun xs H Q => ∃ (d : Addr) (es : List (Key × V)) (js : List Int), xs = [.ref d] ∧ Rd H d (.dK es) ∧ es.map (·.1) = js.map Sum.inl ∧
    js.length ≤ 1000 ∧ ∀ (zs : List Int) (l : Addr), zs.Perm js → zs.Pairwise (· ≤ ·) → H l = none → Q (.ref l) (upd H l (.lst (zs.map V.int)))) := by
  intro pins st σ H xs us Q Iv rv hh
  obtain ⟨d, es, js, rfl, rd, ek, small, q⟩ := hh
  obtain ⟨w0, rfl, rw0⟩ := vals1 rv
  cases rw0
  obtain ⟨_, low, ws, rl, da⟩ := dk_rd Iv.hok rd
  obtain ⟨spot, at0⟩ := da.dictAt
  have kk : ws.map (·.1) = js.map Sum.inl := (rl.keys.symm).trans ek
  have wl : ws.length = js.length := by
    have := congrArg List.length kk
    simpa using this
  have fits : ∀ {n : Nat}, n = js.length → n ≤ sizeLine := fun {n} e => by
    rw [e]
    exact Nat.le_trans small (by decide)
  refine Calls.call_function_entry kind_sorted plain_sorted entry_sorted (args_sorted1 _) ?_
  unfold Builtin.«sorted»
  refine wpAny_bind (m := checkCount "sorted" 1 1 _) (wpAny_pure (wpAny_bind ?_))
  refine PySem.W.kdu_collect (A := X.A.in1) (PySem.W.kdl_dict (knd := mixKind X.prog X.w) (kvs := ws) (ep := spot) low) (Iv.ok.hd cm) at0 (fits wl) fun g tk got gk gg => ?_
  have gl : got.toList.length = js.length := by
    rw [Array.length_toList, gg.1, wl]
  have inS : IntsAre got.toList js := by
    refine ints_each gl fun n v e => ?_
    rw [Array.getElem?_toList] at e
    obtain ⟨key, _, f1, f2⟩ := gg.2 n v e
    have f3 := congrArg (fun z => z[n]?) kk
    simp only [List.getElem?_map, f1, Option.map_some] at f3
    cases f4 : js[n]? with
    | none =>
      rw [f4] at f3
      cases f3
    | some y =>
      rw [f4] at f3
      have f5 : key = Sum.inl y := Option.some.inj f3
      rw [f5] at f2
      rcases keyIs_shape (show keyIs (Sum.inl y) v = true from f2) with ⟨i, t, g1, g2⟩ | ⟨_, _, g1, _⟩
      · cases g1
        exact ⟨y, t, rfl, g2⟩
      · cases g1
  have Iv2 : Inv X pins σ H { st with heap := g, toks := tk } := Iv.kept gk
  refine wpAny_bind (wpAny_newList ?_ (fits gl))
  have lay := Heap.get?_push_size g (o := seqObj "list" got.toList.toArray 0) rfl
  show wpAny _ _ _ _ _ { st with heap := g.push (seqObj "list" got.toList.toArray 0), toks := tk }
  refine wpAny_bind (wpAny_holding (wpAny_call_entry slot_list_sort ⟨_, lay, rfl⟩ entry_list_sort ?_ (args_list_sort _)))
  refine SrtO.list_sort_ord SrtO.swo_int lay (fits gl) (fun two => SrtO.ints_sortable inS two) fun out s1 s2 => ⟨_, rfl, ?_⟩
  obtain ⟨o1, o2, o3⟩ := SrtO.ints_out inS s1 s2
  obtain ⟨c, at1⟩ := sortedHeap_at (vs := got.toList) (out := out.toArray) lay
  have inl := fits (show ((out.map SrtO.iv).map V.int).length = js.length by rw [List.length_map, o2.length_eq])
  refine wpAny_pure ⟨_, rfl, .ref g.objs.size, upd H g.objs.size (.lst ((out.map SrtO.iv).map V.int)), Iv2.laid (t' := tk) (fun b x e => ?_) (Nat.le_refl _)
      (show ObjOk X.prog X.w _ _ _ (.lst ((out.map SrtO.iv).map V.int)) from ⟨inl, out, c, vals_of_ints o1, at1⟩), rfl, q _ _ o2 o3 (Iv2.hok.fresh (Nat.le_refl _))⟩
  have less := Heap.lt_size e
  rw [sortedHeap_old (Nat.ne_of_lt less) (by rw [size_push']; exact Nat.lt_succ_of_lt less)]
  exact Heap.get?_push_of_some _ e
end
end TC
/-! repr(x) by an own __repr__; a dict == {}. -/
namespace TCX
open PySem PySem.Spec PyProof.Rows L2 TCA
section
variable {X : Cx} {CX : CXT} {n : Nat} {f C : Addr} {fd : FuncData} {ps : List Str} {sp : Sp} {E : XK}
theorem call_reprO (F : FnOk X.prog X.w X.K X.mg X.base CX n f fd ps sp) (hs : PySem.W.findIn X.K (.ref C) "__repr__" = some (some (.ref f))) (hf : PySem.W.isFn X.K (.ref f) = true) (hb : Binds X.K fd ps []) (hx : Passes CX X E)
    (hr : Room (n + 1) X.A) : CallR X (.builtin "repr") (rStrO C sp E) := by
  intro pins s σ H xs us Q I r hq
  obtain ⟨a, dx, fs, rfl, ha, q⟩ := hq
  obtain ⟨u, rfl, rx⟩ : ∃ u, us = [u] ∧ RelV (.ref a) u := by
    cases r with
    | cons r rr => cases rr; exact ⟨_, rfl, r⟩
  cases (show u = Value.ref a from rx)
  obtain ⟨mA, J, _⟩ := ins_get I.hok ha
  obtain ⟨od, J, _⟩ := J.look
  have hr2 : Room n X.A.in1 := hr.in1
  have hu : X.A.in1.units < cLine := Nat.lt_of_succ_lt (hu_of hr2)
  have KI := I.kIn
  refine Calls.call_function_entry PySem.F.kind_repr PySem.F.plain_repr PySem.F.entry_repr (PySem.F.args_repr1 _) ?_
  unfold Builtin.«repr»
  refine wpAny_bind (m := oneArg "repr" _) (wpAny_pure (wpAny_bind (wpAny_cRoomFor hu (wpAny_bind (wpAny_bind (J.type.here ((PySem.W.looks_findIn KI hs).here ?_)))))))
  show wpAny _ _ (if (some (Value.ref f)).isNone = true then _ else _) _ _ _
  rw [if_neg (by simp)]
  refine wpAny_bind (m := callSpecialIfBound? (.ref a) (Str.ofString "__repr__") _) (PySem.W.ifBound_K KI J hs hf ?_)
  refine wpAny_mono (run_sub F hb hx (A := X.A.in1) ⟨hr2, rfl⟩ I (.cons rx .nil) q) (fun r s' hz => ?_) fun _ _ z => z
  obtain ⟨z, H', I', rz, x, rfl, qb⟩ := hz
  obtain ⟨t, e⟩ := (show ∃ t, r = Value.str x t from rz)
  cases e
  refine wpAny_bind (wpAny_isInstance (typeIs_str _ _ _) isSubtype_str_str ?_)
  first
    | exact wpAny_pure ⟨_, rfl, .str x, H', I', ⟨t, rfl⟩, qb⟩
    | (rw [if_pos rfl]; exact wpAny_pure ⟨_, rfl, .str x, H', I', ⟨t, rfl⟩, qb⟩)
    | (simp only [if_true]; exact wpAny_pure ⟨_, rfl, .str x, H', I', ⟨t, rfl⟩, qb⟩)
/-- a dict == {} -/
def rEqE : R2 := fun x y H Q => ∃ a b ks, x = .ref a ∧ y = .ref b ∧ H a = some (.dK ks) ∧ H b = some (.dK []) ∧ Q (.bl (decide (ks.length = 0))) H
theorem op_eqE (hu : X.A.units < cLine) : OpR X (compareOp .Eq) rEqE := by
  intro pins s σ H x y v u Q I rx ry h
  obtain ⟨a, b, ks, rfl, rfl, ea, eb, q⟩ := h
  obtain rfl : v = Value.ref a := rx
  obtain rfl : u = Value.ref b := ry
  obtain ⟨_, ya, va, ra, da⟩ := (show ObjOk X.prog X.w H s.heap a (.dK ks) from I.hok a _ ea)
  obtain ⟨_, yb, vb, rb, db⟩ := (show ObjOk X.prog X.w H s.heap b (.dK []) from I.hok b _ eb)
  have l1 : ks.length = va.length := ra.length
  have l2 : vb.length = 0 := by rw [← rb.length]; rfl
  refine PySem.W.keq_eq (knd := mixKind X.prog X.w) (r := true) ya yb da db hu (fun hl => ?_) (fin_bl I q ?_)
  · have e0 : ks = [] := List.length_eq_zero_iff.mp (by omega)
    subst e0
    exact hits_all rb ra (fun p hp => by cases hp)
  · by_cases h0 : ks.length = 0
    · have e : va.length = vb.length := by omega
      simp [h0, e]
    · have e : ¬ va.length = vb.length := by omega
      simp [h0, e]
end
end TCX
namespace TC
open PySem PySem.Spec PyProof.Rows L2 TCA TCX
theorem mul_frac (q : Rat) (t b : Int) : Rat.divInt (q.num * t) ((q.den : Int) * b) = q * Rat.divInt t b := by
  have e := Rat.divInt_mul_divInt q.num t (d₁ := (q.den : Int)) (d₂ := b)
  rw [← e, Rat.num_divInt_den]
theorem low_mul {q : Rat} {t b : Int} (h : (q.den : Int) * b ≠ 0) : HO.tup [.int (TCM.lowL (q.num * t) ((q.den : Int) * b)).1, .int (TCM.lowL (q.num * t) ((q.den : Int) * b)).2] = fraV (q * Rat.divInt t b) := by
  rw [TCR.lowL_rat _ _ h, mul_frac]
  rfl
section
variable {P : Program} {w : World} {K : PySem.W.Frag} {mg : Str → Option Value} {base : Heap} {f : Addr} {fd : FuncData} {C fI fQ : Addr}
/-! ### _law_by -/
def spBy : Sp := fun vs H Q _ => ∃ (d : Addr) (ks : List Int) (g : Int → Rat) (t b : Int) (A : Nat), vs = [.ref d, .int t, .int b] ∧ DictAt H d ks g ∧ (∀ r, TCR.Sz A (g r)) ∧ b ≠ 0 ∧ t.natAbs < 2 ^ A ∧ b.natAbs < 2 ^ A ∧ 0 < A ∧ A ≤ 4000 ∧ ks.length ≤ 60 ∧
  ∀ d' ks' H', Same H H' → H d' = none → DictAt H' d' ks' (fun r => g r * Rat.divInt t b) → Clear ks' (fun r => g r * Rat.divInt t b) → ks'.length ≤ ks.length → (∀ r ∈ ks', r ∈ ks) → Q (.ref d') H'
theorem scBy : FnScope ["_law_one", "_law_up", "_law_under", "_law_found", "_law_r"] ["_law_one", "_law_up", "_law_under"] (defScope sBy) := ⟨rfl, rfl, rfl, by decide +kernel, rfl, by decide +kernel, by decide +kernel⟩
theorem ok_by {fL fC : Addr} {fdL fdC : FuncData} (F : FnP K "_law_by" sBy f fd) (GL : FnOk P w K mg base CX0 1 fL fdL ["_law_up", "_law_under"] spLowL) (bL : L2.Binds K fdL ["_law_up", "_law_under"] []) (kL : PySem.W.keepIn K (.ref fL) = true) (gL : mg "_law_low" = some (.ref fL))
    (GC : FnOk P w K mg base CX0 1 fC fdC ["_law_some"] spCleared) (bC : L2.Binds K fdC ["_law_some"] []) (kC : PySem.W.keepIn K (.ref fC) = true) (gC : mg "_law_cleared" = some (.ref fC)) : FnOk P w K mg base CX0 2 f fd ["_law_one", "_law_up", "_law_under"] spBy := by
  refine F.ok scBy (fun vs H Q E h => ?_) (fun cdv Ar outer s H vs Q E hr h => ?_)
  · obtain ⟨d, ks, g, t, b, A, rfl, _⟩ := h
    rfl
  · obtain ⟨d, ks, g, t, b, A, rfl, hd, zg, hb0, zt, zb, A0, A9, len, q⟩ := h
    have hu := hu_of hr
    refine ⟨_, PSs.nox (pss_cons (ps_set (i := 3) scBy.nd rfl (.inl rfl) pe_dnewK)
      (pss_cons (ps_lock (ps_for PassesOwn.never rfl (pi_keys (pv 0)) (pg_name (i := 4) scBy.nd rfl (.inl rfl))
        (pss_one (ps_dput hu (pv 3) (pv 4) (pe_call GL hr (by rfl) gL kL bL .nil pass0 (pa_cons (pe_op op_mulW (pe_ix ix_tup (pe_dget hu (pv 0) (pv 4) (fun _ _ => rfl)) pe_int (fun _ _ => rfl)) (pv 1)) (pa_cons (pe_op op_mulW (pe_ix ix_tup (pe_dget hu (pv 0) (pv 4) (fun _ _ => rfl)) pe_int (fun _ _ => rfl)) (pv 2)) pa_nil))) rfl))))
      (pss_one (ps_ret (pe_call GC hr (by rfl) gC kC bC .nil pass0 (pa_cons (pv 3) pa_nil)))))), ?_⟩
    obtain ⟨kv2, b1, b2, b3, b4, b5⟩ := id hd
    intro p hp
    have smp := same_upd (o := .dK []) hp
    have npd : p ≠ d := (ne_of_none b1 hp).symm
    refine ⟨d, .dK kv2, smp _ _ b1, trivial, fun od => ?_⟩
    refine ⟨_, rfl, d, od, rfl, .inl ⟨kv2, upd_same, ?_⟩⟩
    have nud : ∀ {u : Addr} {q : Rat}, H u = some (fraV q) → u ≠ d := fun {u q} hu z => by
      rw [z, b1] at hu
      cases hu
    refine for_it (walk_keys (d := d) (o := od) (kvs := kv2)) (fun i σ H' => ∃ (v4 : Option V) (ks' : List Int), σ = [some (.ref d), some (.int t), some (.int b), some (.ref p), v4] ∧ H' d = some (.frz od (.dK kv2)) ∧ (∀ b o, H b = some o → b ≠ d → H' b = some o) ∧
        DictAt H' p ks' (fun r => if r ∈ ks.take i then g r * Rat.divInt t b else 0) ∧ ks'.length ≤ i ∧ (∀ r ∈ ks', r ∈ ks))
      ⟨none, [], rfl, upd_same, fun b o e hb => by rw [upd_ne hb]; exact smp _ _ e, ⟨[], by rw [upd_ne npd, upd_same], rfl, (fun r hr => by cases hr), List.nodup_nil, fun r _ => by simp⟩, Nat.le_refl _, (fun r hr => by cases hr)⟩ (fun i σ H' _ hP => ?_) (fun i x σ H' H2 hi hP hy => ?_) (fun σ H' hP => ?_)
    · obtain ⟨_, _, _, z, _⟩ := hP
      exact z
    · obtain ⟨rfl, k, v, hkv, rfl⟩ := hy
      obtain ⟨v4, ks', rfl, hfz, keep, hp', l', sub⟩ := hP
      obtain ⟨r, hr', rfl⟩ := key_at b2 hkv
      have rk : r ∈ ks := List.mem_of_getElem? hr'
      have il : i < ks.length := (List.getElem?_eq_some_iff.mp hr').1
      obtain ⟨u, ua, ub⟩ := b3 r rk
      have bu := keep _ _ ub (nud ub)
      have dne : ((g r).den : Int) * b ≠ 0 := Int.mul_ne_zero (by have e1 := (g r).den_pos; omega) hb0
      have zn : (g r).num.natAbs < 2 ^ A := (zg r).1
      have zd : ((g r).den : Int).natAbs < 2 ^ A := by rw [Int.natAbs_natCast]; exact (zg r).2
      refine ⟨_, rfl, _, rfl, d, _, rfl, dget_rd (.inr ⟨od, hfz⟩) ua, u, _, 0, _, rfl, rfl, SqT.of bu, atI_nat (j := 0) rfl, _, rfl, (g r).num, t, rfl, rfl, cmulw zn zt A0 A0 (by omega), _, rfl, _, rfl, d, _, rfl, dget_rd (.inr ⟨od, hfz⟩) ua, u, _, 1, _, rfl, rfl, SqT.of bu, atI_nat (j := 1) rfl, _, rfl, ((g r).den : Int), b, rfl, rfl, cmulw zd zb A0 A0 (by omega), ?_⟩
      refine ⟨_, _, A + A, rfl, dne, wide_lt zd zb, by omega, by omega, fun c2 hc2 => ?_⟩
      rw [low_mul dne]
      have sm2 := same_upd (o := fraV (g r * Rat.divInt t b)) hc2
      obtain ⟨kvq, q1, q2, q3, q4, q5⟩ := hp'.same sm2
      refine ⟨_, rfl, _, rfl, p, _, rfl, DPut.k (k := Sum.inl r) q1 (small1000 (by rw [len_keys q2]; omega)), ?_⟩
      refine ⟨_, addKey ks' r, rfl, by rw [upd_ne npd.symm]; exact sm2 _ _ hfz, fun b o e hb => ?_, ?_, Nat.le_trans (addKey_len ks' r) (by omega), fun s hs => ?_⟩
      · rw [upd_ne (ne_of_none e hp)]
        exact sm2 _ _ (keep b o e hb)
      · refine (put_ok (r := r) (q := g r * Rat.divInt t b) q1 q2 q3 q4 q5 upd_same).imp fun s => ?_
        unfold setF
        by_cases es : s = r
        · rw [if_pos es, es, if_pos ((mem_take_succ hr').mpr (.inr rfl))]
        · rw [if_neg es]
          have em : (s ∈ ks.take (i + 1)) ↔ s ∈ ks.take i := ⟨fun m => ((mem_take_succ hr').mp m).resolve_right es, fun m => (mem_take_succ hr').mpr (.inl m)⟩
          show (if s ∈ ks.take i then g s * Rat.divInt t b else 0) = (if s ∈ ks.take (i + 1) then g s * Rat.divInt t b else 0)
          by_cases m : s ∈ ks.take i
          · rw [if_pos m, if_pos (em.mpr m)]
          · rw [if_neg m, if_neg fun z => m (em.mp z)]
      · rcases mem_addKey.mp hs with m | m
        · exact sub s m
        · rw [m]
          exact rk
    · obtain ⟨v4, ks', rfl, hfz, keep, hp', l', sub⟩ := hP
      have lk := len_keys b2
      refine ⟨hfz, ?_⟩
      have smf : Same H (upd H' d (.dK kv2)) := fun b o e => by
        by_cases hb : b = d
        · rw [hb, upd_same]
          rw [hb, b1] at e
          exact e
        · rw [upd_ne hb]
          exact keep b o e hb
      have hpf : DictAt (upd H' d (.dK kv2)) p ks' (fun r => g r * Rat.divInt t b) := by
        obtain ⟨kvq, f1, f2, f3, f4, f5⟩ := hp'
        have eq : ∀ r, (if r ∈ ks.take kv2.length then g r * Rat.divInt t b else 0) = g r * Rat.divInt t b := fun r => by
          rw [lk, List.take_length]
          by_cases m : r ∈ ks
          · rw [if_pos m]
          · rw [if_neg m, b5 r m, Rat.zero_mul]
        refine DictAt.imp ⟨kvq, by rw [upd_ne npd]; exact f1, f2, fun r hr => ?_, f4, f5⟩ eq
        obtain ⟨u2, c1, c2⟩ := f3 r hr
        refine ⟨u2, c1, ?_⟩
        rw [upd_ne fun z => by
          rw [z, hfz] at c2
          cases c2]
        exact c2
      refine ⟨_, rfl, p, ks', _, rfl, hpf, by omega, fun d' ks2 H2 sm2 hd' hD cl l2 sub2 => ?_⟩
      exact q d' ks2 H2 (smf.trans sm2) (smf.free hd') hD cl (by omega) fun r hr => sub r (sub2 r hr)
/-! ### _law_parts -/
def spParts : Sp := fun vs H Q _ => ∃ (d : Addr) (ks : List Int) (g : Int → Rat), vs = [.ref d] ∧ DictAt H d ks g ∧ Clear ks g ∧ ks.length ≤ 900 ∧
  ∀ p N H', Same H H' → H p = none → PartsL H' p N → TCR.Canon N → (∀ r, TCR.val N r = g r) → N.length = ks.length → Q (.ref p) H'
theorem scParts : FnScope ["_law_some", "_law_r"] ["_law_some"] (defScope sParts) := ⟨rfl, rfl, rfl, by decide +kernel, rfl, by decide +kernel, by decide +kernel⟩
theorem ok_parts (F : FnP K "_law_parts" sParts f fd) (gt : mg "tuple" = none) (gs : mg "sorted" = none) : FnOk P w K mg base CX0 1 f fd ["_law_some"] spParts := by
  refine F.ok scParts (fun vs H Q E h => ?_) (fun cdv Ar outer s H vs Q E hr h => ?_)
  · obtain ⟨d, ks, g, rfl, _⟩ := h
    rfl
  · obtain ⟨d, ks, g, rfl, hd, cl, len, q⟩ := h
    have hu := hu_of hr
    refine ⟨_, PSs.nox (pss_one (ps_ret (pe_callTy call_tuple_of (by rfl) gt (by decide +kernel) (pa_cons
      (pe_lc (own := [("_law_r", 1)]) (g := gName 1) (tt := tYes) (te := tOp (rCatT K) (tTup (tCons (tVar 1) tNil)) (tDGet (tVar 0) (tVar 1))) rfl scParts.nd (pi_list (pe_callB (call_sortedMany rfl) (by rfl) gs (by decide +kernel) (pa_cons (pv 0) pa_nil)))
        (blkOk_by (N := ["_law_some", "_law_r"]) (sc := defScope sParts) (by decide +kernel)) (fun _ _ _ _ _ => pg_name (i := 1) scParts.nd rfl (.inl rfl)) (fun _ _ _ _ _ => pts_nil)
        (fun _ _ _ _ _ => pe_op op_catT (pe_tup (pa_cons (pv 1) pa_nil)) (pe_dget hu (pv 0) (pv 1) (fun _ _ => rfl)))) pa_nil)))), ?_⟩
    obtain ⟨kvs, b1, b2, b3, b4, b5⟩ := id hd
    refine ⟨_, rfl, d, kvs, ks, rfl, .inl b1, b2, by omega, fun ns l hperm hsort hl => ?_⟩
    have sml := same_upd (o := .lst (ns.map V.int)) hl
    have ndn : ns.Nodup := hperm.nodup_iff.mpr b4
    refine ⟨l, rfl, ⟨_, SqL.of upd_same⟩, fun D hD => lc_list (xs := ns.map V.int) (fun i H' => Same (upd H l (.lst (ns.map V.int))) H' ∧ ∃ ws, H' D = some (.lst (ws.map V.ref)) ∧ Refs H' ws (TCR.kept g (ns.take i))) ?_ (fun i H' _ hP => SqL.of (hP.1 _ _ upd_same)) (fun i x H' hx hP => ?_) (fun H' hP => ?_)⟩
    · exact ⟨same_upd hD, [], upd_same, trivial⟩
    · obtain ⟨sm, ws, hD', hR⟩ := hP
      rw [List.getElem?_map] at hx
      obtain ⟨r, hr', rfl⟩ : ∃ r, ns[i]? = some r ∧ V.int r = x := by
        cases e : ns[i]? with
        | none =>
          rw [e] at hx
          cases hx
        | some p =>
          rw [e] at hx
          exact ⟨p, rfl, Option.some.inj hx⟩
      have rk : r ∈ ks := hperm.mem_iff.mp (List.mem_of_getElem? hr')
      have gz := cl r rk
      obtain ⟨u, ua, ub⟩ := b3 r rk
      refine ⟨rfl, ?_⟩
      refine ⟨_, rfl, by show 1 ≤ sizeLine; decide, fun c hc => ?_⟩
      have smc := same_upd (o := .tup [.int r]) hc
      have smT := sml.trans (sm.trans smc)
      refine ⟨_, rfl, _, rfl, d, _, rfl, dget_in (smT _ _ b1) ua, ?_⟩
      refine ⟨c, u, _, _, rfl, rfl, SqT.of upd_same, SqT.of (smT _ _ ub), (by intro z; cases z), (by show 3 ≤ sizeLine; decide), (fun z => by cases z), fun _ c2 hc2 => ?_⟩
      have smc2 := same_upd (o := parV (r, g r)) hc2
      have hDc := smc2 _ _ (smc _ _ hD')
      have wl : ws.length ≤ 900 := by
        have z1 := hR.len
        have z2 := TCR.kept_len g (ns.take i)
        have z3 : (ns.take i).length ≤ ns.length := by
          rw [List.length_take]
          exact Nat.min_le_right ..
        have z4 := hperm.length_eq
        omega
      have hl' : ∀ x, (upd (upd H' c (.tup [.int r])) c2 (parV (r, g r))) D ≠ some (parV x) := fun x e => by
        rw [hDc] at e
        cases e
      refine ⟨_, hDc, small1000 (by rw [List.length_map]; omega), same_at ((sm.trans smc).trans smc2) hD, ws ++ [c2], ?_, ?_⟩
      · rw [upd_same, List.map_append]
        rfl
      · have et : ns.take (i + 1) = ns.take i ++ [r] := by
          rw [List.take_add_one, hr']
          rfl
        rw [et, TCR.kept_snoc, if_pos gz]
        exact Refs.upd hl' (Refs.snoc upd_same ((hR.same smc).same smc2))
    · obtain ⟨sm, ws, hD', hR⟩ := hP
      rw [List.length_map, List.take_length] at hR
      refine ⟨D, _, rfl, .inl ⟨SqL.of hD', fun p hp => ?_⟩⟩
      have smp := same_upd (o := .tup (ws.map V.ref)) hp
      have smT := sml.trans sm
      refine q p (TCR.kept g ns) _ (smT.trans smp) (smT.free hp) ⟨ws, upd_same, hR.same smp⟩ (TCR.canon_kept g ndn hsort) (fun r => TCR.val_kept g r fun z => b5 r fun m => z (hperm.mem_iff.mpr m)) ?_
      unfold TCR.kept
      rw [List.length_map, List.filter_eq_self.mpr fun r hr => decide_eq_true (cl r (hperm.mem_iff.mp hr)), hperm.length_eq]

end
end TC
namespace TCX
set_option exponentiation.threshold 20000
theorem fact_lt2 : ∀ n, n < 42 → factN n < 2 ^ 166 := by decide +kernel
theorem prodF_lt2 : ∀ {l : List Nat}, (∀ n ∈ l, n < 42) → prodF l < 2 ^ (166 * l.length + 1)
  | [], _ => by decide
  | n :: l, h => by
    have h1 := prodF_lt2 (l := l) fun m hm => h m (List.mem_cons_of_mem _ hm)
    show factN n * prodF l < 2 ^ (166 * (l.length + 1) + 1)
    rw [show 166 * (l.length + 1) + 1 = 166 + (166 * l.length + 1) by omega, Nat.pow_add]
    exact Nat.mul_lt_mul'' (fact_lt2 n (h n (by simp))) h1
theorem comK_lt2 {A B C : Nat} {D E : Int} (h1 : A < 42) (h2 : B + D < 42) (h3 : C + E < 42) : comK A B C D E < 2 ^ 498 := by
  unfold comK
  have a1 := fact_lt2 A h1
  have a2 := fact_lt2 (B + D).toNat (by omega)
  have a3 := fact_lt2 (C + E).toNat (by omega)
  have z := Nat.mul_lt_mul'' (Nat.mul_lt_mul'' a1 a2) a3
  rw [← Nat.pow_add, ← Nat.pow_add] at z
  exact z
end TCX
namespace TC
set_option exponentiation.threshold 20000
open PySem PySem.Spec PyProof.Rows L2 TCA TCX
/-- small enough to be shown -/
structure SmallP (x : Part) : Prop where
  r : x.1.natAbs < 2 ^ 1900
  n : x.2.num.natAbs < 2 ^ 1900
  d : x.2.den < 2 ^ 1900
theorem log1920 {i : Int} (h : i.natAbs < 2 ^ 1900) : i.natAbs.log2 < 1920 := Nat.lt_of_lt_of_le (PySem.Flt.log2_lt_of (show 0 < 1900 by decide) h) (by decide)
theorem w1901 {i : Int} (h : i.natAbs < 2 ^ 1900) : PyData.weight (.int i) ≤ 1901 := by
  show (if i == 0 then 0 else i.natAbs.log2 + 1) ≤ 1901
  have := PySem.Flt.log2_lt_of (show 0 < 1900 by decide) h
  split <;> omega
theorem shown700 {i : Int} (h : i.natAbs < 2 ^ 1900) : (PyData.shown (.int i)).length ≤ 701 := by
  have e := int_text_length_le10 (a := i) (k := 700) (by decide) (Nat.lt_of_lt_of_le h (by decide +kernel))
  show (Str.ofString (toString i)).length ≤ 701
  rw [PySem.ofString_length]
  exact e
theorem shows_parts {L : List Part} (hl : L.length ≤ 1) (h : ∀ x ∈ L, SmallP x) : Shows (toD L) := by
  match L, hl with
  | [], _ => exact ⟨rfl, rfl, by decide, by show (PyData.shown (.tuple [])).length ≤ sizeLine; decide +kernel⟩
  | [x], _ =>
    have hx := h x (by simp)
    have hd : ((x.2.den : Nat) : Int).natAbs < 2 ^ 1900 := by rw [Int.natAbs_natCast]; exact hx.d
    have s1 := shown700 hx.r
    have s2 := shown700 hx.n
    have s3 := shown700 hd
    have w1 := w1901 hx.r
    have w2 := w1901 hx.n
    have w3 := w1901 hd
    have sl : (toD [x]).leavesShort 701 = true := by
      simp only [toD, parD, List.map_cons, List.map_nil, PyData.leavesShort, PyData.leavesShortAll, Bool.and_true, Bool.and_eq_true, decide_eq_true_eq]
      exact ⟨s1, s2, s3⟩
    have wl : (toD [x]).weight ≤ 6000 := by
      simp only [toD, parD, List.map_cons, List.map_nil, PyData.weight, PyData.weightAll] at w1 w2 w3 ⊢
      omega
    refine ⟨?_, ?_, ?_, ?_⟩
    · simp only [toD, parD, List.map_cons, List.map_nil, PyData.showable, PyData.showableAll, Bool.and_true, Bool.and_eq_true, decide_eq_true_eq]
      exact ⟨log1920 hx.r, log1920 hx.n, log1920 hd⟩
    · rfl
    · show (2 : Nat) ≤ 60
      decide
    · have z := PyData.shown_le 701 (by decide) (toD [x]) sl
      rw [sizeLine_eq]
      omega
theorem join_fit {a u b v c w : Int} (h1 : PairP a u) (h2 : PairP b v) (h3 : PairP c w) : ∃ D : Nat, 0 < D ∧ D < 2 ^ 1500 ∧ Fit D 1667 200 (joinL a u b v c w) ∧ (joinL a u b v c w).length ≤ 1 := by
  unfold joinL
  by_cases J : JoinP a b c u v w
  · rw [if_pos J]
    have la := jAb_lt h1 h2 h3
    have lb := jBe_lt h1 h2 h3
    have T := tmp_of h1 h2 h3 J
    have l42 : ∀ n ∈ jAb a u b v c w, n < 42 := by
      obtain ⟨a0, a1, a2, a3, a4⟩ := h1
      obtain ⟨b0, b1, b2, b3, b4⟩ := h2
      obtain ⟨c0, c1, c2, c3, c4⟩ := h3
      intro n hn
      unfold jAb at hn
      simp only [List.mem_cons, List.not_mem_nil, or_false] at hn
      omega
    have cl : jCom a u b v c < 2 ^ 498 := by
      obtain ⟨a0, a1, a2, a3, a4⟩ := h1
      obtain ⟨b0, b1, b2, b3, b4⟩ := h2
      obtain ⟨c0, c1, c2, c3, c4⟩ := h3
      obtain ⟨k1, k2, k3, k4⟩ := canB_iff.mp J.1
      have k5 := J.2
      unfold jCom
      exact comK_lt2 (by unfold jA; omega) (by unfold jB jD; omega) (by unfold jC jE; omega)
    have A41 : jA a b c < 63 := by have := T.lA; have := T.s1; omega
    have Wl : (jSum a u b v c).natAbs < 2 ^ 504 := by
      have z := sumK_le (f := jT a u b v c) (tmK_le _ _ _ _ _) (jA a b c + 1)
      refine Nat.lt_of_le_of_lt z ?_
      have y : jA a b c + 1 < 2 ^ 6 := by omega
      have x := Nat.mul_lt_mul'' y cl
      rw [← Nat.pow_add] at x
      exact x
    have tl : topE (jAb a u b v c w) (jBe a b c) < 2 ^ 1163 := Nat.lt_of_le_of_lt (topE_le fun n hn => by have := la n hn; omega) (prodF_lt2 l42)
    have bl : botE (jAb a u b v c w) (jBe a b c) < 2 ^ 1500 := botE_lt h1 h2 h3
    have rl := rootE_lt (jAb a u b v c w) (jBe a b c)
    have bp := botE_pos (jAb a u b v c w) (jBe a b c)
    generalize topE (jAb a u b v c w) (jBe a b c) = t at tl ⊢
    generalize botE (jAb a u b v c w) (jBe a b c) = bo at bl bp ⊢
    generalize jSum a u b v c = W at Wl ⊢
    have rp := (rootE_sqF (jAb a u b v c w) (jBe a b c)).pos
    generalize rootE (jAb a u b v c w) (jBe a b c) = r at rl rp ⊢
    rw [Rat.divInt_mul_divInt, Int.one_mul]
    refine ⟨bo, bp, bl, ?_, by unfold oneQ; split <;> simp⟩
    have can := canon_oneQ ((r : Nat) : Int) (Rat.divInt (W * (t : Int)) (bo : Int))
    have lo := (TCM.low_abs (W * (t : Int)) (bo : Int) (by omega)).1
    rw [TCR.low_rat (W * (t : Int)) (bo : Int) (by omega)] at lo
    have mem : ∀ x ∈ oneQ ((r : Nat) : Int) (Rat.divInt (W * (t : Int)) (bo : Int)), x = (((r : Nat) : Int), Rat.divInt (W * (t : Int)) (bo : Int)) := fun x hx => by
      unfold oneQ at hx
      split at hx
      · cases hx
      · exact List.mem_singleton.mp hx
    refine ⟨can, fun x hx => ?_, fun x hx => ?_, fun x hx => ?_⟩
    · rw [mem x hx]
      exact den_divInt bp
    · rw [mem x hx]
      exact Nat.lt_of_le_of_lt lo (wide_lt Wl (nat_bits tl))
    · rw [mem x hx]
      show 0 < ((r : Nat) : Int) ∧ ((r : Nat) : Int).natAbs < 2 ^ 200
      exact ⟨by omega, by rw [Int.natAbs_natCast]; exact rl⟩
  · rw [if_neg J]
    exact ⟨1, by decide, by decide, ⟨TCR.canon_nil, (fun x hx => by cases hx), (fun x hx => by cases hx), (fun x hx => by cases hx)⟩, Nat.zero_le _⟩
section
variable {P : Program} {w : World} {K : PySem.W.Frag} {mg : Str → Option Value} {base : Heap} {f : Addr} {fd : FuncData} {C fI fQ : Addr}
/-! ### _law_is -/
def spIs (C : Addr) : Sp := fun vs H Q _ => ∃ (x d : Addr) (L : List Part) (ks : List Int), vs = [.ref x, .ref d] ∧ NumAt C H x L ∧ DictAt H d ks (TCR.val L) ∧ Clear ks (TCR.val L) ∧ ks.length ≤ 900 ∧ TCR.Canon L ∧ L.length ≤ 1 ∧ (∀ y ∈ L, SmallP y) ∧ ∀ H', Same H H' → Q (.bl true) H'
abbrev nIs : List Str := ["_law_number", "_law_due"]
theorem scIs : FnScope nIs ["_law_number", "_law_due"] (defScope sIs) := ⟨rfl, rfl, rfl, by decide +kernel, rfl, by decide +kernel, by decide +kernel⟩
theorem ok_is {fP : Addr} {fdP : FuncData} (F : FnP K "_law_is" sIs f fd) (T : TxtN K mg C fI fQ) (GP : FnOk P w K mg base CX0 1 fP fdP ["_law_some"] spParts) (bP : L2.Binds K fdP ["_law_some"] []) (kP : PySem.W.keepIn K (.ref fP) = true) (gP : mg "_law_parts" = some (.ref fP)) (gI : mg "isinstance" = none) (gr : mg "repr" = none) :
    FnG P w K mg base CX0 2 f fd ["_law_number", "_law_due"] (spIs C) := by
  refine okG F scIs (fun vs H Q E h => ?_) (fun cdv A outer s H vs Q E hG hr h => ?_)
  · obtain ⟨_, _, _, _, rfl, _⟩ := h
    rfl
  obtain ⟨x, d, L, ks, rfl, ⟨dx, p, hx, hp⟩, hd, cl, lk, cL, lL, sL, q⟩ := h
  have hu := hr.units
  refine ⟨_, PSs.nox (pss_one (ps_ret (pe_and (pe_callB call_isi (by rfl) gI (by decide +kernel) (pa_cons (pv 0) (pa_cons (pe_glob (v := .ref C) (by rfl) T.mgC rfl) pa_nil))) (pe_one (pe_cmpR op_eq (pe_callB (call_reprD hG hu) (by rfl) gr (by decide +kernel) (pa_cons (pe_fld (pv 0) rfl) pa_nil)) (pe_callB (call_reprD hG hu) (by rfl) gr (by decide +kernel) (pa_cons (pe_call GP hr (by rfl) gP kP bP .nil pass0 (pa_cons (pv 1) pa_nil)) pa_nil)) (nomark _)))))), ?_⟩
  refine ⟨_, rfl, _, _, _, _, true, rfl, .own C, T.ty hx, kit_self, true, rfl, iteT ?_⟩
  obtain ⟨s1, s2, s3, s4⟩ := shows_parts lL sL
  refine ⟨_, rfl, x, C, dx, _, _, rfl, hx, T.cl, T.nP, rfl, p, toD L, rfl, hp.dp, s1, s2, s3, s4, ?_⟩
  refine ⟨_, rfl, d, ks, _, rfl, hd, cl, lk, fun p' N H1 sm hp' hN cN vN lN => ?_⟩
  have e : N = L := TCR.canon_eq cN cL vN
  subst e
  refine ⟨p', toD N, rfl, hN.dp, s1, s2, s3, s4, rfl, ?_⟩
  show Q (.bl (decide (V.str (toD N).shown = V.str (toD N).shown))) H1
  rw [decide_eq_true rfl]
  exact q H1 sm
end
end TC
namespace TC
set_option exponentiation.threshold 20000
open PySem PySem.Spec PyProof.Rows L2 TCA TCX
theorem small_join {a u b v c w : Int} (h1 : PairP a u) (h2 : PairP b v) (h3 : PairP c w) : (joinL a u b v c w).length ≤ 1 ∧ ∀ x ∈ joinL a u b v c w, SmallP x := by
  obtain ⟨D, D0, D1, F, l⟩ := join_fit h1 h2 h3
  refine ⟨l, fun x hx => ⟨?_, ?_, ?_⟩⟩
  · exact Nat.lt_of_lt_of_le (F.pos x hx).2 (Nat.pow_le_pow_right (by decide) (by decide))
  · exact Nat.lt_of_lt_of_le (F.num x hx) (Nat.pow_le_pow_right (by decide) (by decide))
  · exact Nat.lt_of_le_of_lt (Nat.le_of_dvd D0 (F.den x hx)) (Nat.lt_of_lt_of_le D1 (Nat.pow_le_pow_right (by decide) (by decide)))
section
variable {K : PySem.W.Frag} {x : Str} {params : Arguments} {body : List Stmt} {scope : Scope} {kws : List (Str × V)} {f : Addr} {fd : FuncData} {ps : List Str} {qual : Str}
/-- a call with keywords of a def without defaults -/
theorem kbindsN (F : FunD K x qual params body scope [] kws f fd) (n : Nat) (ks : List Str)
    (h : ∀ (kV doc pm : Value) (an : Option Addr) (cdv ct : Value) (us ws : List Value), us.length = n → ws.length = ks.length → bindArgs (PySem.W.fnOf x qual params body scope .none kV doc pm an cdv ct) ⟨us, ks.zip ws⟩ = pure (ps.zip (us ++ ws))) :
    KBn K fd ps n ks (fun us ws => us ++ ws) (fun vs zs => vs ++ zs) := by
  obtain ⟨oc, od, dV, kV, doc, pm, an, cdv, ct, osl, rfl, lk, hcd, hD, hK⟩ := F.ex
  rcases hD with ⟨_, rfl⟩ | ⟨e, _⟩
  · exact ⟨fun s us ws X l1 l2 => .of_eq (h kV doc pm an cdv ct us ws l1 l2), fun r1 r2 => r1.append r2⟩
  · exact absurd rfl e
end
section
variable {P : Program} {w : World} {K : PySem.W.Frag} {mg : Str → Option Value} {base : Heap} {f fD fT fZ fP fS : Addr} {fd fdD fdT fdZ fdP fdS : FuncData} {C fI fQ : Addr}
/-! ### joined -/
def spJoined (C : Addr) : Sp := spJoinedN C
abbrev nJoined : List Str := ["one", "other", "to"]
theorem scJoined : FnScope nJoined ["one", "other", "to"] (defScope sJoined) := ⟨rfl, rfl, rfl, by decide +kernel, rfl, by decide +kernel, by decide +kernel⟩
theorem ok_joined {fP fJ : Addr} {fdP fdJ : FuncData} (F : FnP K "joined" sJoined f fd) (GP : FnOk P w K mg base CX0 4 fP fdP ["things"] spNeedPairs) (bP : L2.Binds K fdP ["things"] []) (kP : PySem.W.keepIn K (.ref fP) = true) (gP : mg "need_pairs" = some (.ref fP))
    (GJ : FnOk P w K mg base CX0 5 fJ fdJ ["one", "other", "to"] (spJoinedN C)) (bJ : L2.Binds K fdJ ["one", "other", "to"] []) (kJ : PySem.W.keepIn K (.ref fJ) = true) (gJ : mg "joined_number" = some (.ref fJ)) :
    FnOk P w K mg base CX0 6 f fd ["one", "other", "to"] (spJoined C) := by
  refine F.ok scJoined (fun vs H Q E h => ?_) (fun cdv A outer s H vs Q E hr h => ?_)
  · obtain ⟨_, _, _, _, _, _, _, _, _, rfl, _⟩ := h
    rfl
  obtain ⟨p1, p2, p3, a, u, b, v, c, w, rfl, hp1, hp2, hp3, P1, P2, P3, q⟩ := h
  have hr4 := hr.mono (j := 4) (by decide)
  refine ⟨_, PSs.nox (pss_cons (ps_expr (pe_call GP hr4 (by rfl) gP kP bP .nil pass0 (pa_cons (pe_lst (pa_cons (pv 0) (pa_cons (pv 1) (pa_cons (pv 2) pa_nil)))) pa_nil)))
      (pss_one (ps_ret (pe_call GJ hr (by rfl) gJ kJ bJ .nil pass0 (pa_cons (pv 0) (pa_cons (pv 1) (pa_cons (pv 2) pa_nil))))))), ?_⟩
  refine ⟨_, rfl, _, rfl, _, rfl, by show 3 ≤ sizeLine; decide, fun l hl => ?_⟩
  have s1 := same_upd (o := .lst [.ref p1, .ref p2, .ref p3]) hl
  refine ⟨l, [p1, p2, p3], [(a, u), (b, v), (c, w)], rfl, upd_same, ⟨s1 _ _ hp1, s1 _ _ hp2, s1 _ _ hp3, trivial⟩, ?_, fun H2 s2 => ?_⟩
  · intro x hx
    simp only [List.mem_cons, List.not_mem_nil, or_false] at hx
    rcases hx with rfl | rfl | rfl
    · exact P1
    · exact P2
    · exact P3
  have sA := s1.trans s2
  exact ⟨_, rfl, _, rfl, _, rfl, p1, p2, p3, a, u, b, v, c, w, rfl, sA _ _ hp1, sA _ _ hp2, sA _ _ hp3, P1, P2, P3, fun x H' s3 hx hN => q x H' (sA.trans s3) (sA.free hx) hN⟩
end
end TC
/-! Sums of roots, built up root by root: no such sum but 0 is 0 (pure). -/
namespace QF
open Lean.Grind
/-- a + b times the root of p -/
structure Q2 (α : Type) (p : α) where
  a : α
  b : α
section
variable {α : Type} [CommRing α] {p : α}
def nc (α : Type) [CommRing α] (n : Nat) : α := (Semiring.natCast (α := α)).natCast n
def ic (α : Type) [CommRing α] (n : Int) : α := (Ring.intCast (α := α)).intCast n
theorem Q2.ext' {x y : Q2 α p} (h1 : x.a = y.a) (h2 : x.b = y.b) : x = y := by
  cases x
  cases y
  cases h1
  cases h2
  rfl
def qmul (x y : Q2 α p) : Q2 α p := ⟨x.a * y.a + p * (x.b * y.b), x.a * y.b + x.b * y.a⟩
def qpow (x : Q2 α p) : Nat → Q2 α p
  | 0 => ⟨1, 0⟩
  | n + 1 => qmul (qpow x n) x
instance : Add (Q2 α p) := ⟨fun x y => ⟨x.a + y.a, x.b + y.b⟩⟩
instance : Mul (Q2 α p) := ⟨qmul⟩
instance : Neg (Q2 α p) := ⟨fun x => ⟨-x.a, -x.b⟩⟩
instance : Sub (Q2 α p) := ⟨fun x y => ⟨x.a - y.a, x.b - y.b⟩⟩
instance : NatCast (Q2 α p) := ⟨fun n => ⟨nc α n, 0⟩⟩
instance : IntCast (Q2 α p) := ⟨fun n => ⟨ic α n, 0⟩⟩
instance (n : Nat) : OfNat (Q2 α p) n := ⟨⟨(Semiring.ofNat (α := α) n).ofNat, 0⟩⟩
instance : SMul Nat (Q2 α p) := ⟨fun n x => ⟨nc α n * x.a, nc α n * x.b⟩⟩
instance : SMul Int (Q2 α p) := ⟨fun n x => ⟨ic α n * x.a, ic α n * x.b⟩⟩
instance : HPow (Q2 α p) Nat (Q2 α p) := ⟨qpow⟩
theorem add_a (x y : Q2 α p) : (x + y).a = x.a + y.a := rfl
theorem add_b (x y : Q2 α p) : (x + y).b = x.b + y.b := rfl
theorem mul_a (x y : Q2 α p) : (x * y).a = x.a * y.a + p * (x.b * y.b) := rfl
theorem mul_b (x y : Q2 α p) : (x * y).b = x.a * y.b + x.b * y.a := rfl
theorem zero_a : (0 : Q2 α p).a = 0 := rfl
theorem zero_b : (0 : Q2 α p).b = 0 := rfl
theorem one_a : (1 : Q2 α p).a = 1 := rfl
theorem one_b : (1 : Q2 α p).b = 0 := rfl
instance : CommRing (Q2 α p) where
  nsmul := inferInstance
  npow := inferInstance
  zsmul := inferInstance
  natCast := inferInstance
  intCast := inferInstance
  ofNat := inferInstance
  add_zero := fun x => Q2.ext' (by rw [add_a, zero_a]; grind) (by rw [add_b, zero_b]; grind)
  add_comm := fun x y => Q2.ext' (by rw [add_a, add_a]; grind) (by rw [add_b, add_b]; grind)
  add_assoc := fun x y z => Q2.ext' (by simp only [add_a]; grind) (by simp only [add_b]; grind)
  mul_assoc := fun x y z => Q2.ext' (by simp only [mul_a, mul_b]; grind) (by simp only [mul_a, mul_b]; grind)
  mul_one := fun x => Q2.ext' (by simp only [mul_a, one_a, one_b]; grind) (by simp only [mul_b, one_a, one_b]; grind)
  one_mul := fun x => Q2.ext' (by simp only [mul_a, one_a, one_b]; grind) (by simp only [mul_b, one_a, one_b]; grind)
  right_distrib := fun x y z => Q2.ext' (by simp only [mul_a, add_a, add_b]; grind) (by simp only [mul_b, add_a, add_b]; grind)
  mul_zero := fun x => Q2.ext' (by simp only [mul_a, zero_a, zero_b]; grind) (by simp only [mul_b, zero_a, zero_b]; grind)
  left_distrib := fun x y z => Q2.ext' (by simp only [mul_a, add_a, add_b]; grind) (by simp only [mul_b, add_a, add_b]; grind)
  zero_mul := fun x => Q2.ext' (by simp only [mul_a, zero_a, zero_b]; grind) (by simp only [mul_b, zero_a, zero_b]; grind)
  pow_zero := fun _ => Q2.ext' (by rfl) (by rfl)
  pow_succ := fun _ _ => rfl
  ofNat_succ := fun n => Q2.ext' (Semiring.ofNat_succ (α := α) n) (show (0 : α) = 0 + 0 by grind)
  ofNat_eq_natCast := fun n => Q2.ext' (Semiring.ofNat_eq_natCast (α := α) n) rfl
  nsmul_eq_natCast_mul := fun n x => Q2.ext' (by show nc α n * x.a = nc α n * x.a + p * (0 * x.b); grind) (by show nc α n * x.b = nc α n * x.b + 0 * x.a; grind)
  neg_add_cancel := fun x => Q2.ext' (by show -x.a + x.a = 0; grind) (by show -x.b + x.b = 0; grind)
  sub_eq_add_neg := fun x y => Q2.ext' (by show x.a - y.a = x.a + -y.a; grind) (by show x.b - y.b = x.b + -y.b; grind)
  neg_zsmul := fun i x => Q2.ext' (by show ic α (-i) * x.a = -(ic α i * x.a); rw [show ic α (-i) = -ic α i from Ring.intCast_neg i]; grind) (by show ic α (-i) * x.b = -(ic α i * x.b); rw [show ic α (-i) = -ic α i from Ring.intCast_neg i]; grind)
  zsmul_natCast_eq_nsmul := fun n x => Q2.ext' (by show ic α ((n : Nat) : Int) * x.a = nc α n * x.a; rw [show ic α ((n : Nat) : Int) = nc α n from Ring.intCast_natCast n]) (by show ic α ((n : Nat) : Int) * x.b = nc α n * x.b; rw [show ic α ((n : Nat) : Int) = nc α n from Ring.intCast_natCast n])
  intCast_ofNat := fun n => Q2.ext' (Ring.intCast_ofNat (α := α) n) rfl
  intCast_neg := fun i => Q2.ext' (Ring.intCast_neg (α := α) i) (by show (0 : α) = -0; grind)
  mul_comm := fun x y => Q2.ext' (by simp only [mul_a]; grind) (by simp only [mul_b]; grind)
end
/-- all but 0 has an inverse -/
def Fld (α : Type) [CommRing α] : Prop := (0 : α) ≠ 1 ∧ ∀ x : α, x ≠ 0 → ∃ y, x * y = 1
theorem Fld.dom {α : Type} [CommRing α] (F : Fld α) {x y : α} (h : x * y = 0) : x = 0 ∨ y = 0 := by
  by_cases hx : x = 0
  · exact .inl hx
  · obtain ⟨z, hz⟩ := F.2 x hx
    refine .inr ?_
    have : y = z * (x * y) := by grind
    rw [this, h]
    grind
/-- a root more -/
theorem Fld.more {α : Type} [CommRing α] (F : Fld α) {p : α} (hp : ∀ c : α, c * c ≠ p) : Fld (Q2 α p) := by
  refine ⟨fun e => F.1 (congrArg Q2.a e), fun x hx => ?_⟩
  have n0 : x.a * x.a - p * (x.b * x.b) ≠ 0 := fun e => by
    by_cases hb : x.b = 0
    · have : x.a * x.a = 0 := by rw [hb] at e; grind
      rcases F.dom this with h | h <;> exact hx (Q2.ext' h hb)
    · obtain ⟨z, hz⟩ := F.2 x.b hb
      refine hp (x.a * z) ?_
      have : x.a * x.a = p * (x.b * x.b) := by grind
      have : x.a * z * (x.a * z) = p * ((x.b * z) * (x.b * z)) := by grind
      rw [this, hz]
      grind
  obtain ⟨m, hm⟩ := F.2 _ n0
  refine ⟨⟨x.a * m, -(x.b * m)⟩, Q2.ext' ?_ ?_⟩
  · show x.a * (x.a * m) + p * (x.b * -(x.b * m)) = 1
    grind
  · show x.a * -(x.b * m) + x.b * (x.a * m) = 0
    grind
/-! ### root by root -/
structure Bun where
  α : Type
  ring : CommRing α
  ι : Rat → α
  ιmul : ∀ q r : Rat, ι (q * r) = ι q * ι r
  ιadd : ∀ q r : Rat, ι (q + r) = ι q + ι r
  ι1 : ι 1 = 1
  ι0 : ι 0 = 0
def bun0 : Bun := ⟨Rat, inferInstance, id, fun _ _ => rfl, fun _ _ => rfl, rfl, rfl⟩
def bunS (B : Bun) (p : Rat) : Bun :=
  letI := B.ring
  { α := Q2 B.α (B.ι p)
    ring := inferInstance
    ι := fun q => ⟨B.ι q, 0⟩
    ιmul := fun q r => Q2.ext' (by show B.ι (q * r) = B.ι q * B.ι r + B.ι p * (0 * 0); rw [B.ιmul]; grind) (by show (0 : B.α) = B.ι q * 0 + 0 * B.ι r; grind)
    ιadd := fun q r => Q2.ext' (by show B.ι (q + r) = B.ι q + B.ι r; exact B.ιadd q r) (by show (0 : B.α) = 0 + 0; grind)
    ι1 := Q2.ext' B.ι1 rfl
    ι0 := Q2.ext' B.ι0 rfl }
def El : List Rat → Bun
  | [] => bun0
  | p :: ps => bunS (El ps) p
/-- products of some of the roots -/
def prods : List Rat → List Rat
  | [] => [1]
  | p :: ps => prods ps ++ (prods ps).map fun t => p * t
/-- m times a product of some of the roots is no square -/
def NoSq (ps : List Rat) (m : Rat) : Prop := ∀ t ∈ prods ps, ∀ q : Rat, q * q ≠ m * t
def Indep : List Rat → Prop
  | [] => True
  | p :: ps => NoSq ps p ∧ Indep ps
theorem NoSq.tail {p : Rat} {ps : List Rat} {m : Rat} (h : NoSq (p :: ps) m) : NoSq ps m := fun t ht => h t (List.mem_append_left _ ht)
theorem NoSq.times {p : Rat} {ps : List Rat} {m : Rat} (h : NoSq (p :: ps) m) : NoSq ps (m * p) := fun t ht q e => by
  refine h (p * t) (List.mem_append_right _ (List.mem_map.mpr ⟨t, ht, rfl⟩)) q ?_
  rw [e, Rat.mul_assoc]
theorem two_ne {B : Bun} (F : @Fld B.α B.ring) : letI := B.ring; (1 + 1 : B.α) ≠ 0 := by
  letI := B.ring
  intro e
  have h : B.ι (1 / 2) * (1 + 1) = 1 := by
    have e1 : B.ι (1 / 2) * (1 + 1) = B.ι (1 / 2 * (1 + 1)) := by rw [B.ιmul, B.ιadd, B.ι1]
    rw [e1, show (1 / 2 * (1 + 1) : Rat) = 1 by decide +kernel, B.ι1]
  rw [e] at h
  refine F.1 ?_
  rw [← h]
  grind
theorem fld_rat : Fld Rat := ⟨by decide, fun x hx => ⟨x⁻¹, Rat.mul_inv_cancel x hx⟩⟩
theorem el_all : ∀ ps : List Rat, Indep ps → @Fld (El ps).α (El ps).ring ∧ ∀ m, NoSq ps m → ∀ x : (El ps).α, letI := (El ps).ring; x * x ≠ (El ps).ι m
  | [], _ => by
    refine ⟨fld_rat, fun m h x e => ?_⟩
    have e' : (show Rat from x) * (show Rat from x) = m := e
    refine h 1 (List.mem_singleton.mpr rfl) x ?_
    rw [Rat.mul_one]
    exact e'
  | p :: ps, ⟨hp, hi⟩ => by
    obtain ⟨F, sq⟩ := el_all ps hi
    letI := (El ps).ring
    have F2 : Fld (Q2 (El ps).α ((El ps).ι p)) := F.more fun c => sq p hp c
    refine ⟨F2, fun m h x e => ?_⟩
    have ea : x.a * x.a + (El ps).ι p * (x.b * x.b) = (El ps).ι m := congrArg Q2.a e
    have eb : x.a * x.b + x.b * x.a = 0 := congrArg Q2.b e
    have eb2 : (1 + 1) * (x.a * x.b) = 0 := by grind
    rcases F.dom eb2 with z | z
    · exact two_ne F z
    rcases F.dom z with z | z
    · refine sq (m * p) h.times ((El ps).ι p * x.b) ?_
      rw [(El ps).ιmul, ← ea, z]
      grind
    · refine sq m h.tail x.a ?_
      rw [← ea, z]
      grind
end QF
/-! Roots of unlike primes are independent (pure). -/
namespace QF
def Pr (p : Nat) : Prop := 2 ≤ p ∧ ∀ g, g ∣ p → g = 1 ∨ g = p
theorem Pr.euclid {p a b : Nat} (h : Pr p) (e : p ∣ a * b) : p ∣ a ∨ p ∣ b := by
  rcases h.2 (Nat.gcd p a) (Nat.gcd_dvd_left _ _) with g | g
  · exact .inr (Nat.Coprime.dvd_of_dvd_mul_left g e)
  · refine .inl ?_
    rw [← g]
    exact Nat.gcd_dvd_right _ _
theorem Pr.one {p : Nat} (h : Pr p) : ¬ p ∣ 1 := fun e => by
  have := Nat.le_of_dvd (by decide) e
  have := h.1
  omega
abbrev cs (ps : List Nat) : List Rat := ps.map fun (x : Nat) => (x : Rat)
theorem prods_nat {p : Nat} (hp : Pr p) : ∀ ps : List Nat, (∀ x ∈ ps, Pr x ∧ x ≠ p) → ∀ t ∈ prods (cs ps), ∃ n : Nat, t = (n : Rat) ∧ 0 < n ∧ ¬ p ∣ n
  | [], _, t, ht => by
    rw [List.mem_singleton.mp ht]
    exact ⟨1, rfl, by decide, hp.one⟩
  | x :: ps, h, t, ht => by
    have hx := h x List.mem_cons_self
    have ih := prods_nat hp ps fun y hy => h y (List.mem_cons_of_mem _ hy)
    rcases List.mem_append.mp ht with z | z
    · exact ih t z
    · obtain ⟨s, hs, rfl⟩ := List.mem_map.mp z
      obtain ⟨n, rfl, n0, nd⟩ := ih s hs
      refine ⟨x * n, by rw [Rat.natCast_mul], Nat.mul_pos (by have := hx.1.1; omega) n0, fun e => ?_⟩
      rcases hp.euclid e with z | z
      · rcases hx.1.2 p z with y | y
        · have := hp.1
          omega
        · exact hx.2 y.symm
      · exact nd z
theorem no_square {p n : Nat} (hp : Pr p) (n0 : 0 < n) (hn : ¬ p ∣ n) (q : Rat) : q * q ≠ (p : Rat) * (n : Rat) := fun e => by
  have q1 : q = (q.num : Rat) / (q.den : Rat) := by
    have z := Rat.divInt_eq_div q.num (q.den : Int)
    rw [Rat.num_divInt_den, Rat.intCast_natCast] at z
    exact z
  have d0 : (q.den : Rat) ≠ 0 := fun z => by
    have y : ((q.den : Nat) : Rat) = ((0 : Nat) : Rat) := z
    have := Rat.natCast_inj.mp y
    have := q.den_pos
    omega
  have e1 : q * (q.den : Rat) = (q.num : Rat) := by
    generalize (q.num : Rat) = A at q1 ⊢
    generalize (q.den : Rat) = B at q1 d0 ⊢
    grind
  have e2 : ((q.num * q.num : Int) : Rat) = (((p * n * (q.den * q.den) : Nat) : Int) : Rat) := by
    rw [Rat.intCast_mul, ← e1]
    have : q * (q.den : Rat) * (q * (q.den : Rat)) = q * q * ((q.den : Rat) * (q.den : Rat)) := by grind
    rw [this, e]
    rw [Rat.intCast_natCast, Rat.natCast_mul, Rat.natCast_mul, Rat.natCast_mul]
  have e3 : q.num * q.num = ((p * n * (q.den * q.den) : Nat) : Int) := Rat.intCast_inj.mp e2
  have e4 : q.num.natAbs * q.num.natAbs = p * n * (q.den * q.den) := by
    have := congrArg Int.natAbs e3
    rwa [Int.natAbs_mul, Int.natAbs_natCast] at this
  have d1 : p ∣ q.num.natAbs := by
    have : p ∣ q.num.natAbs * q.num.natAbs := ⟨n * (q.den * q.den), by rw [e4, Nat.mul_assoc]⟩
    rcases hp.euclid this with z | z <;> exact z
  obtain ⟨k, hk⟩ := d1
  have e5 : p * (k * k) = n * (q.den * q.den) := by
    have p0 : 0 < p := by have := hp.1; omega
    refine Nat.eq_of_mul_eq_mul_left p0 ?_
    rw [hk] at e4
    calc p * (p * (k * k)) = p * k * (p * k) := by grind
      _ = p * n * (q.den * q.den) := e4
      _ = _ := by grind
  have d2 : p ∣ q.den := by
    rcases hp.euclid (show p ∣ n * (q.den * q.den) from ⟨k * k, e5.symm⟩) with z | z
    · exact absurd z hn
    · rcases hp.euclid z with y | y <;> exact y
  have co := q.reduced
  have : p ∣ Nat.gcd q.num.natAbs q.den := Nat.dvd_gcd ⟨k, hk⟩ d2
  rw [show Nat.gcd q.num.natAbs q.den = 1 from co] at this
  exact hp.one this
theorem nosq_prime {p : Nat} (hp : Pr p) {ps : List Nat} (h : ∀ x ∈ ps, Pr x ∧ x ≠ p) : NoSq (cs ps) (p : Rat) := fun t ht q => by
  obtain ⟨n, rfl, n0, nd⟩ := prods_nat hp ps h t ht
  exact no_square hp n0 nd q
/-- roots of unlike primes -/
theorem indep_primes : ∀ ps : List Nat, (∀ x ∈ ps, Pr x) → ps.Nodup → Indep (cs ps)
  | [], _, _ => trivial
  | p :: ps, h, nd => by
    obtain ⟨n1, n2⟩ := List.nodup_cons.mp nd
    exact ⟨nosq_prime (h p List.mem_cons_self) fun x hx => ⟨h x (List.mem_cons_of_mem _ hx), fun e => n1 (e ▸ hx)⟩, indep_primes ps (fun x hx => h x (List.mem_cons_of_mem _ hx)) n2⟩
theorem field_primes {ps : List Nat} (h : ∀ x ∈ ps, Pr x) (nd : ps.Nodup) : @Fld (El (cs ps)).α (El (cs ps)).ring := (el_all _ (indep_primes ps h nd)).1
end QF
/-! Sums of roots as functions of the root, and their products (pure). -/
namespace QF
def S (l : List Nat) (f : Nat → Rat) : Rat := (l.map f).sum
theorem S_nil (f : Nat → Rat) : S [] f = 0 := rfl
theorem S_cons (a : Nat) (l : List Nat) (f : Nat → Rat) : S (a :: l) f = f a + S l f := rfl
theorem S_app (f : Nat → Rat) : ∀ l m : List Nat, S (l ++ m) f = S l f + S m f
  | [], m => by rw [List.nil_append, S_nil]; grind
  | a :: l, m => by rw [List.cons_append, S_cons, S_app f l m, S_cons]; grind
theorem S_map (k : Nat → Nat) (f : Nat → Rat) : ∀ l : List Nat, S (l.map k) f = S l fun r => f (k r)
  | [] => rfl
  | a :: l => by rw [List.map_cons, S_cons, S_map k f l, S_cons]
theorem S_congr {f g : Nat → Rat} : ∀ {l : List Nat}, (∀ r ∈ l, f r = g r) → S l f = S l g
  | [], _ => rfl
  | a :: l, h => by rw [S_cons, S_cons, h a List.mem_cons_self, S_congr fun r hr => h r (List.mem_cons_of_mem _ hr)]
theorem S_zero {f : Nat → Rat} {l : List Nat} (h : ∀ r ∈ l, f r = 0) : S l f = 0 := by
  rw [S_congr h]
  induction l with
  | nil => rfl
  | cons a l ih => rw [S_cons, ih fun r hr => h r (List.mem_cons_of_mem _ hr)]; grind
theorem S_add (f g : Nat → Rat) : ∀ l : List Nat, S l (fun r => f r + g r) = S l f + S l g
  | [] => by rw [S_nil, S_nil, S_nil]; grind
  | a :: l => by rw [S_cons, S_add f g l, S_cons, S_cons]; grind
theorem S_mul (c : Rat) (f : Nat → Rat) : ∀ l : List Nat, S l (fun r => c * f r) = c * S l f
  | [] => by rw [S_nil, S_nil]; grind
  | a :: l => by rw [S_cons, S_mul c f l, S_cons]; grind
/-- all products of some of the primes -/
def keys : List Nat → List Nat
  | [] => [1]
  | p :: ps => keys ps ++ (keys ps).map fun r => p * r
theorem keys_no {p : Nat} (hp : Pr p) : ∀ {ps : List Nat}, (∀ x ∈ ps, Pr x ∧ x ≠ p) → ∀ r ∈ keys ps, 0 < r ∧ ¬ p ∣ r
  | [], _, r, hr => by
    rw [List.mem_singleton.mp hr]
    exact ⟨by decide, hp.one⟩
  | x :: ps, h, r, hr => by
    have hx := h x List.mem_cons_self
    have ih := keys_no hp (ps := ps) fun y hy => h y (List.mem_cons_of_mem _ hy)
    rcases List.mem_append.mp hr with z | z
    · exact ih r z
    · obtain ⟨s, hs, rfl⟩ := List.mem_map.mp z
      obtain ⟨n0, nd⟩ := ih s hs
      refine ⟨Nat.mul_pos (by have := hx.1.1; omega) n0, fun e => ?_⟩
      rcases hp.euclid e with z | z
      · rcases hx.1.2 p z with y | y
        · have := hp.1
          omega
        · exact hx.2 y.symm
      · exact nd z
def mu (r s : Nat) : Nat := r / Nat.gcd r s * (s / Nat.gcd r s)
def tm (g h : Nat → Rat) (u r s : Nat) : Rat := if mu r s = u then g r * h s * (Nat.gcd r s : Rat) else 0
/-- the product -/
def pr (ps : List Nat) (g h : Nat → Rat) (u : Nat) : Rat := S (keys ps) fun r => S (keys ps) fun s => tm g h u r s
section
variable {p r s : Nat}
theorem cop (hp : Pr p) (hr : ¬ p ∣ r) : Nat.Coprime p r := by
  rcases hp.2 (Nat.gcd p r) (Nat.gcd_dvd_left _ _) with g | g
  · exact g
  · refine absurd ?_ hr
    rw [← g]
    exact Nat.gcd_dvd_right _ _
theorem gcd_r (hp : Pr p) (hr : ¬ p ∣ r) : Nat.gcd r (p * s) = Nat.gcd r s := by
  refine Nat.dvd_antisymm (Nat.dvd_gcd (Nat.gcd_dvd_left _ _) ?_) (Nat.dvd_gcd (Nat.gcd_dvd_left _ _) (Nat.dvd_trans (Nat.gcd_dvd_right _ _) (Nat.dvd_mul_left _ _)))
  have c : Nat.Coprime (Nat.gcd r (p * s)) p := Nat.Coprime.symm (Nat.Coprime.coprime_dvd_right (Nat.gcd_dvd_left _ _) (cop hp hr))
  exact c.dvd_of_dvd_mul_left (Nat.gcd_dvd_right r (p * s))
theorem mu_r (hp : Pr p) (hr : ¬ p ∣ r) : mu r (p * s) = p * mu r s := by
  unfold mu
  rw [gcd_r hp hr, Nat.mul_div_assoc p (Nat.gcd_dvd_right r s)]
  simp only [Nat.mul_left_comm]
theorem mu_comm : mu r s = mu s r := by
  unfold mu
  rw [Nat.gcd_comm, Nat.mul_comm]
theorem mu_l (hp : Pr p) (hs : ¬ p ∣ s) : mu (p * r) s = p * mu r s := by
  rw [mu_comm, mu_r hp hs, mu_comm]
theorem gcd_l (hp : Pr p) (hs : ¬ p ∣ s) : Nat.gcd (p * r) s = Nat.gcd r s := by
  rw [Nat.gcd_comm, gcd_r hp hs, Nat.gcd_comm]
theorem mu_b (p0 : 0 < p) : mu (p * r) (p * s) = mu r s := by
  unfold mu
  rw [Nat.gcd_mul_left, Nat.mul_div_mul_left _ _ p0, Nat.mul_div_mul_left _ _ p0]
theorem mu_no (hp : Pr p) (hr : ¬ p ∣ r) (hs : ¬ p ∣ s) : ¬ p ∣ mu r s := fun e => by
  unfold mu at e
  rcases hp.euclid e with z | z
  · exact hr (Nat.dvd_trans z (Nat.div_dvd_of_dvd (Nat.gcd_dvd_left r s)))
  · exact hs (Nat.dvd_trans z (Nat.div_dvd_of_dvd (Nat.gcd_dvd_right r s)))
end
section
variable {p : Nat} {ps : List Nat} (hp : Pr p) (h : ∀ x ∈ ps, Pr x ∧ x ≠ p) (g k : Nat → Rat)
include hp h
/-- where p isn't in the root -/
theorem pr_a {u : Nat} (hu : u ∈ keys ps) : pr (p :: ps) g k u = pr ps g k u + (p : Rat) * pr ps (fun r => g (p * r)) (fun r => k (p * r)) u := by
  obtain ⟨_, nu⟩ := keys_no hp h u hu
  have p0 : 0 < p := by have := hp.1; omega
  unfold pr
  show S (keys ps ++ (keys ps).map fun r => p * r) _ = _
  rw [S_app, S_map, ← S_mul]
  congr 1
  · refine S_congr fun r hr => ?_
    obtain ⟨_, nr⟩ := keys_no hp h r hr
    show S (keys ps ++ (keys ps).map fun r => p * r) _ = _
    rw [S_app, S_map, S_zero (l := keys ps) (f := fun s => tm g k u r (p * s)) fun s hs => if_neg fun e => nu ⟨mu r s, by rw [← e, mu_r hp nr]⟩]
    grind
  · refine S_congr fun r hr => ?_
    show S (keys ps ++ (keys ps).map fun r => p * r) _ = _
    rw [S_app, S_map, S_zero (l := keys ps) (f := fun s => tm g k u (p * r) s) fun s hs => if_neg fun e => nu ⟨mu r s, by rw [← e, mu_l hp (keys_no hp h s hs).2]⟩, ← S_mul]
    have : S (keys ps) (fun s => tm g k u (p * r) (p * s)) = S (keys ps) fun s => (p : Rat) * tm (fun r => g (p * r)) (fun r => k (p * r)) u r s := S_congr fun s hs => by
      unfold tm
      rw [mu_b p0, Nat.gcd_mul_left, Rat.natCast_mul]
      split <;> grind
    rw [this]
    grind
/-- where it is -/
theorem pr_b {u : Nat} (hu : u ∈ keys ps) : pr (p :: ps) g k (p * u) = pr ps g (fun r => k (p * r)) u + pr ps (fun r => g (p * r)) k u := by
  have p0 : 0 < p := by have := hp.1; omega
  unfold pr
  show S (keys ps ++ (keys ps).map fun r => p * r) _ = _
  rw [S_app, S_map]
  congr 1
  · refine S_congr fun r hr => ?_
    obtain ⟨_, nr⟩ := keys_no hp h r hr
    show S (keys ps ++ (keys ps).map fun r => p * r) _ = _
    rw [S_app, S_map, S_zero (l := keys ps) (f := fun s => tm g k (p * u) r s) fun s hs => if_neg fun e => mu_no hp nr (keys_no hp h s hs).2 (by rw [e]; exact Nat.dvd_mul_right _ _)]
    have : S (keys ps) (fun s => tm g k (p * u) r (p * s)) = S (keys ps) fun s => tm g (fun r => k (p * r)) u r s := S_congr fun s hs => by
      unfold tm
      rw [mu_r hp nr, gcd_r hp nr]
      by_cases e : mu r s = u
      · rw [if_pos e, if_pos (by rw [e])]
      · rw [if_neg e, if_neg fun z => e (Nat.eq_of_mul_eq_mul_left p0 z)]
    rw [this]
    grind
  · refine S_congr fun r hr => ?_
    obtain ⟨_, nr⟩ := keys_no hp h r hr
    show S (keys ps ++ (keys ps).map fun r => p * r) _ = _
    rw [S_app, S_map, S_zero (l := keys ps) (f := fun s => tm g k (p * u) (p * r) (p * s)) fun s hs => if_neg fun e => mu_no hp nr (keys_no hp h s hs).2 (by rw [← mu_b p0, e]; exact Nat.dvd_mul_right _ _)]
    have : S (keys ps) (fun s => tm g k (p * u) (p * r) s) = S (keys ps) fun s => tm (fun r => g (p * r)) k u r s := S_congr fun s hs => by
      have ns := (keys_no hp h s hs).2
      unfold tm
      rw [mu_l hp ns, gcd_l hp ns]
      by_cases e : mu r s = u
      · rw [if_pos e, if_pos (by rw [e])]
      · rw [if_neg e, if_neg fun z => e (Nat.eq_of_mul_eq_mul_left p0 z)]
    rw [this]
    grind
end
/-- the sum of roots that a function tells -/
def fr : (ps : List Nat) → (Nat → Rat) → (El (cs ps)).α
  | [], g => (g 1 : Rat)
  | p :: ps, g => (⟨fr ps g, fr ps fun r => g (p * r)⟩ : Q2 (El (cs ps)).α ((El (cs ps)).ι (p : Rat)))
theorem fr_congr : ∀ {ps : List Nat} {g h : Nat → Rat}, (∀ u ∈ keys ps, g u = h u) → fr ps g = fr ps h
  | [], g, h, e => e 1 (List.mem_singleton.mpr rfl)
  | p :: ps, g, h, e => letI := (El (cs ps)).ring; Q2.ext' (fr_congr fun u hu => e u (List.mem_append_left _ hu)) (fr_congr fun u hu => e (p * u) (List.mem_append_right _ (List.mem_map.mpr ⟨u, hu, rfl⟩)))
theorem fr_inj : ∀ {ps : List Nat} {g h : Nat → Rat}, fr ps g = fr ps h → ∀ u ∈ keys ps, g u = h u
  | [], g, h, e, u, hu => by
    rw [List.mem_singleton.mp hu]
    exact e
  | p :: ps, g, h, e, u, hu => by
    rcases List.mem_append.mp hu with z | z
    · exact fr_inj (congrArg Q2.a e) u z
    · obtain ⟨v, hv, rfl⟩ := List.mem_map.mp z
      exact fr_inj (congrArg Q2.b e) v hv
theorem fr_add : ∀ (ps : List Nat) (g h : Nat → Rat), letI := (El (cs ps)).ring; fr ps (fun r => g r + h r) = fr ps g + fr ps h
  | [], g, h => rfl
  | p :: ps, g, h => letI := (El (cs ps)).ring; Q2.ext' (fr_add ps g h) (fr_add ps _ _)
theorem fr_mul : ∀ (ps : List Nat) (c : Rat) (g : Nat → Rat), letI := (El (cs ps)).ring; fr ps (fun r => c * g r) = (El (cs ps)).ι c * fr ps g
  | [], c, g => rfl
  | p :: ps, c, g => by
    letI := (El (cs ps)).ring
    refine Q2.ext' ?_ ?_
    · show fr ps _ = (El (cs ps)).ι c * fr ps g + (El (cs ps)).ι p * (0 * fr ps fun r => g (p * r))
      rw [fr_mul ps c g]
      grind
    · show fr ps _ = (El (cs ps)).ι c * (fr ps fun r => g (p * r)) + 0 * fr ps g
      rw [fr_mul ps c fun r => g (p * r)]
      grind
/-- products of functions are products of sums of roots -/
theorem fr_pr : ∀ (ps : List Nat), (∀ x ∈ ps, Pr x) → ps.Nodup → ∀ g h : Nat → Rat, letI := (El (cs ps)).ring; fr ps (pr ps g h) = fr ps g * fr ps h
  | [], _, _, g, h => by
    show pr [] g h 1 = g 1 * h 1
    show S [1] (fun r => S [1] fun s => tm g h 1 r s) = _
    rw [S_cons, S_nil, S_cons, S_nil]
    show (g 1 * h 1 * ((1 : Nat) : Rat) + 0) + 0 = _
    grind
  | p :: ps, hP, nd, g, h => by
    obtain ⟨n1, n2⟩ := List.nodup_cons.mp nd
    have hp := hP p List.mem_cons_self
    have hps : ∀ x ∈ ps, Pr x ∧ x ≠ p := fun x hx => ⟨hP x (List.mem_cons_of_mem _ hx), fun e => n1 (e ▸ hx)⟩
    have ih := fr_pr ps (fun x hx => hP x (List.mem_cons_of_mem _ hx)) n2
    letI := (El (cs ps)).ring
    refine Q2.ext' ?_ ?_
    · show fr ps (pr (p :: ps) g h) = fr ps g * fr ps h + (El (cs ps)).ι p * ((fr ps fun r => g (p * r)) * fr ps fun r => h (p * r))
      rw [← ih, ← ih, ← fr_mul, ← fr_add]
      exact fr_congr fun u hu => pr_a hp hps g h hu
    · show fr ps (fun u => pr (p :: ps) g h (p * u)) = fr ps g * (fr ps fun r => h (p * r)) + (fr ps fun r => g (p * r)) * fr ps h
      rw [← ih, ← ih, ← fr_add]
      exact fr_congr fun u hu => pr_b hp hps g h hu
/-- a product that is 0 throughout has a side that is -/
theorem pr_dom {ps : List Nat} (hP : ∀ x ∈ ps, Pr x) (nd : ps.Nodup) {g h : Nat → Rat} (e : ∀ u ∈ keys ps, pr ps g h u = 0) : (∀ u ∈ keys ps, g u = 0) ∨ ∀ u ∈ keys ps, h u = 0 := by
  letI := (El (cs ps)).ring
  have z0 : fr ps (fun _ => 0) = 0 := by
    have := fr_mul ps 0 fun _ => 0
    have e2 : fr ps (fun r => (0 : Rat) * (fun _ => (0 : Rat)) r) = fr ps fun _ => 0 := fr_congr fun _ _ => by grind
    rw [e2, (El (cs ps)).ι0] at this
    rw [this]
    grind
  have z : fr ps g * fr ps h = 0 := by
    rw [← fr_pr ps hP nd g h, fr_congr e, z0]
  rcases (field_primes hP nd).dom z with y | y
  · exact .inl fun u hu => fr_inj (y.trans z0.symm) u hu
  · exact .inr fun u hu => fr_inj (y.trans z0.symm) u hu
end QF
/-! Roots of products, which primes are in them (pure). -/
namespace QF
section
variable {x : Nat} {ps : List Nat} (hx : Pr x) (h : ∀ y ∈ ps, Pr y ∧ y ≠ x)
include hx h
/-- both roots by whether the first prime is in them -/
theorem keys_two {C : Nat → Nat → Nat → Prop} (h00 : ∀ r ∈ keys ps, ∀ s ∈ keys ps, C r s (mu r s)) (h01 : ∀ r ∈ keys ps, ∀ s ∈ keys ps, C r (x * s) (x * mu r s)) (h10 : ∀ r ∈ keys ps, ∀ s ∈ keys ps, C (x * r) s (x * mu r s)) (h11 : ∀ r ∈ keys ps, ∀ s ∈ keys ps, C (x * r) (x * s) (mu r s)) : ∀ r ∈ keys (x :: ps), ∀ s ∈ keys (x :: ps), C r s (mu r s) := fun r hr s hs => by
  have x0 : 0 < x := by have := hx.1; omega
  rcases List.mem_append.mp hr with a | a
  · rcases List.mem_append.mp hs with b | b
    · exact h00 r a s b
    · obtain ⟨t, ht, rfl⟩ := List.mem_map.mp b
      rw [mu_r hx (keys_no hx h r a).2]
      exact h01 r a t ht
  · obtain ⟨q, hq, rfl⟩ := List.mem_map.mp a
    rcases List.mem_append.mp hs with b | b
    · rw [mu_l hx (keys_no hx h s b).2]
      exact h10 q hq s b
    · obtain ⟨t, ht, rfl⟩ := List.mem_map.mp b
      rw [mu_b x0]
      exact h11 q hq t ht
end
theorem mu_keys : ∀ {ps : List Nat}, (∀ y ∈ ps, Pr y) → ps.Nodup → ∀ r ∈ keys ps, ∀ s ∈ keys ps, mu r s ∈ keys ps
  | [], _, _, r, hr, s, hs => by
    rw [List.mem_singleton.mp hr, List.mem_singleton.mp hs]
    exact List.mem_singleton.mpr rfl
  | x :: ps, hP, nd, r, hr, s, hs => by
    obtain ⟨n1, n2⟩ := List.nodup_cons.mp nd
    have ih := mu_keys (ps := ps) (fun y hy => hP y (List.mem_cons_of_mem _ hy)) n2
    exact keys_two (hP x List.mem_cons_self) (fun y hy => ⟨hP y (List.mem_cons_of_mem _ hy), fun e => n1 (e ▸ hy)⟩) (C := fun _ _ m => m ∈ keys (x :: ps)) (fun r hr s hs => List.mem_append_left _ (ih r hr s hs)) (fun r hr s hs => List.mem_append_right _ (List.mem_map.mpr ⟨_, ih r hr s hs, rfl⟩)) (fun r hr s hs => List.mem_append_right _ (List.mem_map.mpr ⟨_, ih r hr s hs, rfl⟩)) (fun r hr s hs => List.mem_append_left _ (ih r hr s hs)) r hr s hs
/-- a prime is in the product's root if it is in just one of both -/
theorem mu_prime : ∀ {ps : List Nat}, (∀ y ∈ ps, Pr y) → ps.Nodup → ∀ p ∈ ps, ∀ r ∈ keys ps, ∀ s ∈ keys ps, (p ∣ mu r s ↔ ¬ (p ∣ r ↔ p ∣ s))
  | [], _, _, p, hp, _, _, _, _ => by cases hp
  | x :: ps, hP, nd, p, hp, r, hr, s, hs => by
    obtain ⟨n1, n2⟩ := List.nodup_cons.mp nd
    have hx := hP x List.mem_cons_self
    have hps : ∀ y ∈ ps, Pr y ∧ y ≠ x := fun y hy => ⟨hP y (List.mem_cons_of_mem _ hy), fun e => n1 (e ▸ hy)⟩
    have ih := mu_prime (ps := ps) (fun y hy => hP y (List.mem_cons_of_mem _ hy)) n2
    have hpp := hP p hp
    by_cases e : p = x
    · subst e
      have no : ∀ {r : Nat}, r ∈ keys ps → ¬ p ∣ r := fun {r} hr => (keys_no hx hps r hr).2
      refine keys_two hx hps (C := fun r s m => p ∣ m ↔ ¬ (p ∣ r ↔ p ∣ s)) (fun r hr s hs => ?_) (fun r hr s hs => ?_) (fun r hr s hs => ?_) (fun r hr s hs => ?_) r hr s hs
      · simp [no hr, no hs, mu_no hx (no hr) (no hs)]
      · simp [no hr, Nat.dvd_mul_right]
      · simp [no hs, Nat.dvd_mul_right]
      · simp [mu_no hx (no hr) (no hs), Nat.dvd_mul_right]
    · have hp' : p ∈ ps := (List.mem_cons.mp hp).resolve_left e
      have dx : ∀ m : Nat, p ∣ x * m ↔ p ∣ m := fun m => ⟨fun z => (hpp.euclid z).resolve_left fun y => by
        rcases hx.2 p y with w | w
        · have := hpp.1
          omega
        · exact e w, fun z => Nat.dvd_trans z (Nat.dvd_mul_left _ _)⟩
      refine keys_two hx hps (C := fun r s m => p ∣ m ↔ ¬ (p ∣ r ↔ p ∣ s)) (fun r hr s hs => ?_) (fun r hr s hs => ?_) (fun r hr s hs => ?_) (fun r hr s hs => ?_) r hr s hs
      · exact ih p hp' r hr s hs
      · rw [dx, dx]
        exact ih p hp' r hr s hs
      · rw [dx, dx]
        exact ih p hp' r hr s hs
      · rw [dx, dx]
        exact ih p hp' r hr s hs
/-- no prime in it: the root 1 -/
theorem keys_one : ∀ {ps : List Nat}, ∀ r ∈ keys ps, (∀ p ∈ ps, ¬ p ∣ r) → r = 1
  | [], r, hr, _ => List.mem_singleton.mp hr
  | x :: ps, r, hr, h => by
    rcases List.mem_append.mp hr with a | a
    · exact keys_one r a fun p hp => h p (List.mem_cons_of_mem _ hp)
    · obtain ⟨q, hq, rfl⟩ := List.mem_map.mp a
      exact absurd (Nat.dvd_mul_right _ _) (h x List.mem_cons_self)
theorem keys_nodup : ∀ {ps : List Nat}, (∀ y ∈ ps, Pr y) → ps.Nodup → (keys ps).Nodup
  | [], _, _ => by simp [keys]
  | x :: ps, hP, nd => by
    obtain ⟨n1, n2⟩ := List.nodup_cons.mp nd
    have hx := hP x List.mem_cons_self
    have hps : ∀ y ∈ ps, Pr y ∧ y ≠ x := fun y hy => ⟨hP y (List.mem_cons_of_mem _ hy), fun e => n1 (e ▸ hy)⟩
    have ih := keys_nodup (ps := ps) (fun y hy => hP y (List.mem_cons_of_mem _ hy)) n2
    have x0 : 0 < x := by have := hx.1; omega
    refine List.nodup_append.mpr ⟨ih, List.pairwise_map.mpr (ih.imp fun {a b} z e => z (Nat.eq_of_mul_eq_mul_left x0 e)), fun a ha b hb e => ?_⟩
    obtain ⟨q, hq, rfl⟩ := List.mem_map.mp hb
    rw [e] at ha
    exact (keys_no hx hps _ ha).2 (Nat.dvd_mul_right _ _)
end QF
/-! values at roots as sums of roots of unlike primes -/
namespace TC
open PySem PySem.Spec PyProof.Rows L2 TCA TCX
/-- the roots as whole numbers -/
def kI (ps : List Nat) : List Int := (QF.keys ps).map fun (r : Nat) => (r : Int)
theorem gR_natK (r s : Nat) : gR (r : Int) (s : Int) = ((Nat.gcd r s : Nat) : Int) := rfl
theorem mulR_natK (r s : Nat) : mulR (r : Int) (s : Int) = ((QF.mu r s : Nat) : Int) := by
  unfold mulR QF.mu
  rw [gR_natK, Int.natCast_mul, ← Int.ofNat_fdiv, ← Int.ofNat_fdiv]
theorem sumQ_S (f : Int → Rat) : ∀ l : List Nat, sumQ ((l.map fun (r : Nat) => (r : Int)).map f) = QF.S l fun r => f (r : Int)
  | [] => rfl
  | a :: l => by
    have z := sumQ_S f l
    show f (a : Int) + sumQ ((l.map fun (r : Nat) => (r : Int)).map f) = _
    rw [z]
    rfl
theorem prodG_pr (ps : List Nat) (g h : Int → Rat) (u : Nat) : prodG (kI ps) (kI ps) g h (u : Int) = QF.pr ps (fun r => g (r : Int)) (fun r => h (r : Int)) u := by
  unfold prodG kI QF.pr
  rw [sumQ_S]
  refine QF.S_congr fun r _ => ?_
  rw [sumQ_S]
  refine QF.S_congr fun s _ => ?_
  unfold QF.tm
  rw [mulR_natK, gR_natK, Rat.intCast_natCast]
  by_cases e : QF.mu r s = u
  · rw [if_pos e, if_pos (by rw [e])]
  · rw [if_neg e, if_neg fun z => e (Int.natCast_inj.mp z)]
/-- unlike primes -/
structure Prm (ps : List Nat) : Prop where
  p : ∀ y ∈ ps, QF.Pr y
  nd : ps.Nodup
/-- values at roots of these primes alone -/
def On (ps : List Nat) (g : Int → Rat) : Prop := ∀ r, g r ≠ 0 → r ∈ kI ps
theorem kI_nodup {ps : List Nat} (h : Prm ps) : (kI ps).Nodup := List.pairwise_map.mpr ((QF.keys_nodup h.p h.nd).imp fun {a b} z e => z (Int.natCast_inj.mp e))
theorem On.cov {ps : List Nat} (h : Prm ps) {g : Int → Rat} (o : On ps g) : Cov g (kI ps) := ⟨kI_nodup h, o⟩
/-- the sum of roots that values tell -/
def fI (ps : List Nat) (g : Int → Rat) : (QF.El (QF.cs ps)).α := QF.fr ps fun r => g (r : Int)
theorem prod_on {ps : List Nat} (h : Prm ps) {k1 k2 : List Int} {g1 g2 : Int → Rat} (c1 : Cov g1 k1) (c2 : Cov g2 k2) (o1 : On ps g1) (o2 : On ps g2) : On ps (prodG k1 k2 g1 g2) := fun u hu => by
  rw [prodG_supp c1 (o1.cov h) c2 (o2.cov h)] at hu
  refine Classical.byContradiction fun nu => hu ?_
  unfold prodG kI
  rw [sumQ_S]
  refine QF.S_zero fun r hr => ?_
  rw [sumQ_S]
  refine QF.S_zero fun s hs => if_neg fun e => nu ?_
  rw [mulR_natK] at e
  rw [← e]
  exact List.mem_map.mpr ⟨_, QF.mu_keys h.p h.nd r hr s hs, rfl⟩
theorem fI_prod {ps : List Nat} (h : Prm ps) {k1 k2 : List Int} {g1 g2 : Int → Rat} (c1 : Cov g1 k1) (c2 : Cov g2 k2) (o1 : On ps g1) (o2 : On ps g2) : letI := (QF.El (QF.cs ps)).ring; fI ps (prodG k1 k2 g1 g2) = fI ps g1 * fI ps g2 := by
  letI := (QF.El (QF.cs ps)).ring
  unfold fI
  rw [← QF.fr_pr ps h.p h.nd]
  refine QF.fr_congr fun u _ => ?_
  rw [prodG_supp c1 (o1.cov h) c2 (o2.cov h), prodG_pr]
theorem fI_inj {ps : List Nat} {g1 g2 : Int → Rat} (o1 : On ps g1) (o2 : On ps g2) (e : fI ps g1 = fI ps g2) : ∀ r, g1 r = g2 r := fun r => by
  by_cases m : r ∈ kI ps
  · obtain ⟨u, hu, rfl⟩ := List.mem_map.mp m
    exact QF.fr_inj e u hu
  · have a : g1 r = 0 := Classical.byContradiction fun z => m (o1 r z)
    have b : g2 r = 0 := Classical.byContradiction fun z => m (o2 r z)
    rw [a, b]
/-- values that aren't 0 throughout -/
def Nz (g : Int → Rat) : Prop := ∃ r, g r ≠ 0
theorem prod_nz {ps : List Nat} (h : Prm ps) {k1 k2 : List Int} {g1 g2 : Int → Rat} (c1 : Cov g1 k1) (c2 : Cov g2 k2) (o1 : On ps g1) (o2 : On ps g2) (z1 : Nz g1) (z2 : Nz g2) : Nz (prodG k1 k2 g1 g2) := by
  refine Classical.byContradiction fun no => ?_
  have all : ∀ u, prodG k1 k2 g1 g2 u = 0 := fun u => Classical.byContradiction fun z => no ⟨u, z⟩
  obtain ⟨r1, n1⟩ := z1
  obtain ⟨r2, n2⟩ := z2
  obtain ⟨u1, m1, rfl⟩ := List.mem_map.mp (o1 r1 n1)
  obtain ⟨u2, m2, rfl⟩ := List.mem_map.mp (o2 r2 n2)
  rcases QF.pr_dom h.p h.nd (g := fun r => g1 (r : Int)) (h := fun r => g2 (r : Int)) (fun u _ => by
    have := all (u : Int)
    rw [prodG_supp c1 (o1.cov h) c2 (o2.cov h), prodG_pr] at this
    exact this) with z | z
  · exact n1 (z u1 m1)
  · exact n2 (z u2 m2)
/-! ### mirrors -/
def mir (p : Nat) (g : Int → Rat) (r : Int) : Rat := g r * (if r % (p : Int) = 0 then -1 else 1)
theorem mir_nz {p : Nat} {g : Int → Rat} {r : Int} : mir p g r ≠ 0 ↔ g r ≠ 0 := by
  unfold mir
  split <;> grind
theorem mir_on {ps : List Nat} {p : Nat} {g : Int → Rat} (o : On ps g) : On ps (mir p g) := fun r h => o r (mir_nz.mp h)
theorem mir_cov {p : Nat} {g : Int → Rat} {k : List Int} (c : Cov g k) : Cov (mir p g) k := ⟨c.1, fun r h => c.2 r (mir_nz.mp h)⟩
theorem mir_Nz {p : Nat} {g : Int → Rat} (z : Nz g) : Nz (mir p g) := by
  obtain ⟨r, h⟩ := z
  exact ⟨r, mir_nz.mpr h⟩
theorem mod_nat {r p : Nat} : ((r : Int) % (p : Int) = 0) ↔ p ∣ r := by
  rw [← Int.natCast_emod]
  exact ⟨fun e => Nat.dvd_of_mod_eq_zero (by omega), fun e => by rw [Nat.mod_eq_zero_of_dvd e]; rfl⟩
/-- with its mirror: the prime is in no root any more -/
theorem prod_mir {ps : List Nat} (h : Prm ps) {p : Nat} (hp : p ∈ ps) {k : List Int} {g : Int → Rat} (c : Cov g k) (o : On ps g) {u : Int} (hu : prodG k k g (mir p g) u ≠ 0) : ¬ u % (p : Int) = 0 := fun e => by
  have om := mir_on (p := p) o
  refine hu ?_
  rw [prodG_supp c (o.cov h) (mir_cov c) (om.cov h)]
  refine prodG_twin fun r hr s hs em => ?_
  obtain ⟨a, ha, rfl⟩ := List.mem_map.mp hr
  obtain ⟨b, hb, rfl⟩ := List.mem_map.mp hs
  rw [mulR_natK] at em
  rw [← em] at e
  have z := (QF.mu_prime h.p h.nd p hp a ha b hb).mp (mod_nat.mp e)
  rw [mod_nat, mod_nat]
  constructor
  · exact fun x y => z ⟨fun _ => y, fun _ => x⟩
  · exact fun y => Classical.byContradiction fun x => z ⟨fun w => absurd w x, fun w => absurd w y⟩
/-- primes that are in no root stay out -/
theorem prod_out {ps : List Nat} (h : Prm ps) {p : Nat} (hp : p ∈ ps) {k1 k2 : List Int} {g1 g2 : Int → Rat} (c1 : Cov g1 k1) (c2 : Cov g2 k2) (o1 : On ps g1) (o2 : On ps g2) (n1 : ∀ r, g1 r ≠ 0 → ¬ r % (p : Int) = 0) (n2 : ∀ r, g2 r ≠ 0 → ¬ r % (p : Int) = 0) {u : Int} (hu : prodG k1 k2 g1 g2 u ≠ 0) : ¬ u % (p : Int) = 0 := fun e => by
  refine hu ?_
  rw [prodG_supp c1 (o1.cov h) c2 (o2.cov h)]
  unfold prodG kI
  rw [sumQ_S]
  refine QF.S_zero fun r hr => ?_
  rw [sumQ_S]
  refine QF.S_zero fun s hs => ?_
  by_cases em : mulR (r : Int) (s : Int) = u
  · rw [if_pos em]
    rw [mulR_natK] at em
    rw [← em] at e
    have z := (QF.mu_prime h.p h.nd p hp r hr s hs).mp (mod_nat.mp e)
    by_cases a : g1 (r : Int) = 0
    · rw [a]
      grind
    · by_cases b : g2 (s : Int) = 0
      · rw [b]
        grind
      · exact absurd ⟨fun w => absurd (mod_nat.mpr w) (n1 _ a), fun w => absurd (mod_nat.mpr w) (n2 _ b)⟩ z
  · rw [if_neg em]
theorem only_one {ps : List Nat} {g : Int → Rat} (o : On ps g) (n : ∀ p ∈ ps, ∀ r, g r ≠ 0 → ¬ r % (p : Int) = 0) {r : Int} (hr : g r ≠ 0) : r = 1 := by
  obtain ⟨u, hu, rfl⟩ := List.mem_map.mp (o r hr)
  have := QF.keys_one u hu fun p hp e => n p hp _ hr (mod_nat.mpr e)
  rw [this]
  rfl
end TC
namespace TC
set_option exponentiation.threshold 20000
open PySem PySem.Spec PyProof.Rows L2 TCA TCX
/-- the primes in a number -/
def prIn (n : Int) : List Int := primes.filter fun p => decide (n % p = 0)
theorem primes_pos : ∀ p ∈ primes, (0 : Int) < p := by decide +kernel
section
variable {P : Program} {w : World} {K : PySem.W.Frag} {mg : Str → Option Value} {base : Heap} {f : Addr} {fd : FuncData} {C fI fQ : Addr}
/-! ### primes_in -/
def spPrimesIn : Sp := fun vs H Q _ => ∃ n : Int, vs = [.int n] ∧ ∀ l H', Same H H' → H l = none → H' l = some (.lst ((prIn n).map V.int)) → Q (.ref l) H'
abbrev nPrimesIn : List Str := ["number", "prime"]
theorem scPrimesIn : FnScope nPrimesIn ["number"] (defScope sPrimesIn) := ⟨rfl, rfl, rfl, by decide +kernel, rfl, by decide +kernel, by decide +kernel⟩
theorem ok_primesIn {aP : Addr} (F : FnP K "primes_in" sPrimesIn f fd) (gP : mg "PRIMES" = some (.ref aP)) (hT : ∀ H, SqT K H aP (primes.map V.int)) : FnOk P w K mg base CX0 1 f fd ["number"] spPrimesIn := by
  refine F.ok scPrimesIn (fun vs H Q E h => ?_) (fun cdv A outer s H vs Q E hr h => ?_)
  · obtain ⟨_, rfl, _⟩ := h
    rfl
  obtain ⟨n, rfl, q⟩ := h
  refine ⟨_, PSs.nox (pss_one (ps_ret (pe_lc (own := [("prime", 1)]) (g := gName 1) (tt := (tTest (tOp rEq (tOp (rI (fun _ j => 0 < j) fun i j => .int (i % j)) (tVar 0) (tVar 1)) (tC (.int 0))))) (te := (tVar 1)) (by rfl) scPrimesIn.nd (pi_tup (pe_glob (v := .ref aP) (by rfl) gP rfl))
          (blkOk_by (N := nPrimesIn) (sc := defScope sPrimesIn) (by decide +kernel)) (fun _ _ _ _ _ => pg_name (i := 1) scPrimesIn.nd rfl (.inl rfl)) (fun _ _ _ _ _ => pts_one (pt_cmpR op_eq (pe_op op_mod (pv 0) (pv 1)) pe_int (nomark _))) (fun _ _ _ _ _ => (pv 1))))), ?_⟩
  refine ⟨aP, rfl, ⟨_, hT _⟩, fun D hD => ?_⟩
  refine lc_tup (xs := primes.map V.int) (fun i G => Same H G ∧ G D = some (.lst (((primes.take i).filter fun p => decide (n % p = 0)).map V.int))) ⟨same_upd hD, upd_same⟩ (fun i G _ _ => hT G) (fun i x G hx hP => ?_) (fun G hP => ?_)
  · obtain ⟨sG, hG⟩ := hP
    rw [List.getElem?_map] at hx
    obtain ⟨y, hy, rfl⟩ := Option.map_eq_some_iff.mp hx
    have py := primes_pos y (List.mem_of_getElem? hy)
    have tk : primes.take (i + 1) = primes.take i ++ [y] := by
      rw [List.take_add_one, hy]
      rfl
    refine ⟨rfl, ?_⟩
    refine ⟨_, rfl, _, rfl, n, y, rfl, rfl, py, rfl, _, rfl, ?_⟩
    by_cases z : n % y = 0
    · refine iteD1 (congrArg V.int z) ⟨_, rfl, _, hG, ?_, fun b o e => ?_, ?_⟩
      · rw [List.length_map, sizeLine_eq]
        have a := List.length_filter_le (fun p => decide (n % p = 0)) (primes.take i)
        have b := List.length_take_le' i primes
        have c : primes.length = 168 := by decide +kernel
        omega
      · rw [upd_ne (ne_of_none e hD)]
        exact sG _ _ e
      · rw [upd_same, tk, List.filter_append, List.map_append, List.filter_cons_of_pos (p := fun p => decide (n % p = 0)) (decide_eq_true z), List.filter_nil]
        rfl
    · refine iteD0 (ine z) ⟨sG, ?_⟩
      rw [tk, List.filter_append, List.filter_cons_of_neg (by rw [decide_eq_false z]; exact Bool.false_ne_true), List.filter_nil, List.append_nil]
      exact hG
  · obtain ⟨sG, hG⟩ := hP
    rw [List.length_map, List.take_length] at hG
    exact q D G sG hD hG
/-! ### primes_of_roots -/
def spPrimesRoots : Sp := fun vs H Q _ => ∃ (p : Addr) (L : List Part) (D R : Nat), vs = [.ref p] ∧ PartsL H p L ∧ (∀ x ∈ L, 0 < x.1 ∧ x.1.natAbs ∣ D) ∧ 0 < D ∧ D < 2 ^ R ∧ 0 < R ∧ R ≤ 8000 ∧
  ∀ (l : Addr) (m : Nat) (H' : Hp), Same H H' → H l = none → 0 < m → (∀ x ∈ L, x.1.natAbs ∣ m) → (∀ E : Nat, (∀ x ∈ L, x.1.natAbs ∣ E) → m ∣ E) → H' l = some (.lst ((prIn m).map V.int)) → Q (.ref l) H'
abbrev nPrimesRoots : List Str := ["parts", "together", "root", "top", "bottom"]
theorem scPrimesRoots : FnScope nPrimesRoots ["parts"] (defScope sPrimesRoots) := ⟨rfl, rfl, rfl, by decide +kernel, rfl, by decide +kernel, by decide +kernel⟩
theorem ok_primesRoots {fS fI' : Addr} {fdS fdI' : FuncData} (F : FnP K "primes_of_roots" sPrimesRoots f fd) (GS : FnOk P w K mg base CX0 1 fS fdS ["one", "other"] spShared) (bS : L2.Binds K fdS ["one", "other"] []) (kS : PySem.W.keepIn K (.ref fS) = true) (gS : mg "shared" = some (.ref fS))
    (GPI : FnOk P w K mg base CX0 1 fI' fdI' ["number"] spPrimesIn) (bPI : L2.Binds K fdI' ["number"] []) (kPI : PySem.W.keepIn K (.ref fI') = true) (gPI : mg "primes_in" = some (.ref fI')) :
    FnOk P w K mg base CX0 2 f fd ["parts"] spPrimesRoots := by
  refine F.ok scPrimesRoots (fun vs H Q E h => ?_) (fun cdv A outer s H vs Q E hr h => ?_)
  · obtain ⟨_, _, _, _, rfl, _⟩ := h
    rfl
  obtain ⟨p, L, D, R, rfl, ⟨us, hp, hL⟩, hR, D0, DR, R0, R8, q⟩ := h
  have hr1 := hr
  refine ⟨_, PSs.nox (pss_cons (ps_set (i := 1) scPrimesRoots.nd rfl (.inl rfl) pe_int)
      (pss_cons (ps_for PassesOwn.never rfl (pi_tup (pv 0)) (pg_tup rfl (pgs_cons (pg_name (i := 2) scPrimesRoots.nd rfl (.inl rfl)) (pgs_cons (pg_name (i := 3) scPrimesRoots.nd rfl (.inl rfl)) (pgs_cons (pg_name (i := 4) scPrimesRoots.nd rfl (.inl rfl)) pgs_nil))))
        (pss_one (ps_aug (i := 1) scPrimesRoots.nd rfl (.inl rfl) (pe_op op_fdivNW (pv 2) (pe_call GS hr1 (by rfl) gS kS bS .nil pass0 (pa_cons (pv 1) (pa_cons (pv 2) pa_nil)))) iop_mulW)))
      (pss_one (ps_ret (pe_call GPI hr1 (by rfl) gPI kPI bPI .nil pass0 (pa_cons (pv 1) pa_nil)))))), ?_⟩
  refine ⟨_, rfl, p, rfl, ⟨_, SqT.of hp⟩, for_tup (xs := us.map V.ref) (fun i σ H' => ∃ (v2 v3 v4 : Option V) (c : Nat), σ = [some (.ref p), some (.int (c : Int)), v2, v3, v4] ∧ H' = H ∧ 0 < c ∧ (∀ x ∈ L.take i, x.1.natAbs ∣ c) ∧ (∀ E : Nat, (∀ x ∈ L.take i, x.1.natAbs ∣ E) → c ∣ E))
      ⟨none, none, none, 1, rfl, rfl, by decide, (fun x hx => by simp at hx), fun E _ => Nat.one_dvd E⟩ (fun i σ H' _ hP => ?_) (fun i x σ H' hx hP => ?_) (fun σ H' hP => ?_)⟩
  · obtain ⟨_, _, _, _, _, rfl, _⟩ := hP
    exact SqT.of hp
  · obtain ⟨v2, v3, v4, c, rfl, rfl, c0, cd, cm⟩ := hP
    obtain ⟨u, y, rfl, hu', hy, hyv⟩ := hL.get hx
    have hyL : y ∈ L := List.mem_of_getElem? hy
    obtain ⟨y0, yR⟩ := hR y hyL
    have et : L.take (i + 1) = L.take i ++ [y] := by
      rw [List.take_add_one, hy]
      rfl
    obtain ⟨r, er⟩ : ∃ r : Nat, y.1 = (r : Int) := ⟨y.1.toNat, by omega⟩
    rw [er] at y0 yR
    rw [Int.natAbs_natCast] at yR
    have r0 : 0 < r := by omega
    have rD : r ∣ D := yR
    have rR : r < 2 ^ R := Nat.lt_of_le_of_lt (Nat.le_of_dvd D0 rD) DR
    have cD : c ∣ D := cm D fun x hx => (hR x (List.mem_of_mem_take hx)).2
    have cR : c < 2 ^ R := Nat.lt_of_le_of_lt (Nat.le_of_dvd D0 cD) DR
    have gp : 0 < Nat.gcd c r := Nat.gcd_pos_of_pos_left _ c0
    have gB : Nat.gcd c r < 2 ^ R := Nat.lt_of_le_of_lt (Nat.le_of_dvd r0 (Nat.gcd_dvd_right ..)) rR
    have el : c * (r / Nat.gcd c r) = Nat.lcm c r := by
      rw [Nat.lcm, Nat.mul_div_assoc _ (Nat.gcd_dvd_right ..)]
    refine ⟨u, _, rfl, SqT.of hyv, rfl, _, _, rfl, _, _, rfl, _, _, rfl, rfl, ?_⟩
    rw [er]
    refine ⟨_, rfl, _, rfl, _, rfl, _, rfl, (c : Int), (r : Int), rfl, ?_⟩
    rw [show Int.gcd (c : Int) (r : Int) = Nat.gcd c r from rfl]
    refine ⟨(r : Int), ((Nat.gcd c r : Nat) : Int), rfl, rfl, cdivn gp gB R0 R8, (c : Int), _, rfl, rfl, ?_, ?_⟩
    · rw [fdiv_nat]
      exact cmulw (A := R) (B := R) (by rw [Int.natAbs_natCast]; exact cR) (by rw [Int.natAbs_natCast]; exact Nat.lt_of_le_of_lt (Nat.div_le_self ..) rR) R0 R0 (by omega)
    · refine ⟨some (.int (r : Int)), some (.int y.2.num), some (.int (y.2.den : Int)), Nat.lcm c r, ?_, rfl, Nat.lcm_pos c0 r0, fun x hx => ?_, fun E hE => ?_⟩
      · rw [fdiv_nat, ← el]
        show [_, some (V.int ((c : Int) * ((r / Nat.gcd c r : Nat) : Int))), _, _, _] = _
        rw [← Int.natCast_mul]
      · rw [et] at hx
        rcases List.mem_append.mp hx with z | z
        · exact Nat.dvd_trans (cd x z) (Nat.dvd_lcm_left _ _)
        · rw [List.mem_singleton.mp z, er, Int.natAbs_natCast]
          exact Nat.dvd_lcm_right _ _
      · rw [et] at hE
        refine Nat.lcm_dvd (cm E fun x hx => hE x (List.mem_append_left _ hx)) ?_
        have := hE y (List.mem_append_right _ (List.mem_singleton.mpr rfl))
        rw [er, Int.natAbs_natCast] at this
        exact this
  · obtain ⟨v2, v3, v4, c, rfl, rfl, c0, cd, cm⟩ := hP
    have el : us.length = L.length := hL.len
    rw [List.length_map, el, List.take_length] at cd cm
    exact ⟨_, rfl, (c : Int), rfl, fun l H2 s2 hl hl2 => q l c H2 s2 hl c0 cd cm hl2⟩
end
end TC
/-! upside_down: what stays through its loop, and what it ends with -/
namespace TC
open PySem PySem.Spec PyProof.Rows L2 TCA TCX
theorem fr_zero : ∀ (ps : List Nat), letI := (QF.El (QF.cs ps)).ring; QF.fr ps (fun _ => 0) = 0
  | [] => rfl
  | p :: ps => by
    letI := (QF.El (QF.cs ps)).ring
    exact QF.Q2.ext' (fr_zero ps) (fr_zero ps)
/-- a number by itself -/
theorem fr_one : ∀ {ps : List Nat}, (∀ y ∈ ps, QF.Pr y) → ∀ b : Rat, QF.fr ps (fun r => if r = 1 then b else 0) = (QF.El (QF.cs ps)).ι b
  | [], _, b => rfl
  | p :: ps, h, b => by
    letI := (QF.El (QF.cs ps)).ring
    refine QF.Q2.ext' (fr_one (fun y hy => h y (List.mem_cons_of_mem _ hy)) b) ?_
    show QF.fr ps (fun r => if p * r = 1 then b else 0) = 0
    rw [← fr_zero ps]
    refine QF.fr_congr fun u _ => if_neg fun e => ?_
    have p2 := (h p List.mem_cons_self).1
    rcases Nat.eq_zero_or_pos u with z | z
    · rw [z] at e
      omega
    · have := Nat.mul_le_mul p2 z
      omega
/-- the loop: above times the number is c times below -/
theorem inv_step {ps : List Nat} (h : Prm ps) {kA kB kM : List Int} {gA gB gM g0 : Int → Rat} {c : Rat} (cA : Cov gA kA) (cB : Cov gB kB) (cM : Cov gM kM) (oA : On ps gA) (oB : On ps gB) (oM : On ps gM) :
    letI := (QF.El (QF.cs ps)).ring; fI ps gA * fI ps g0 = (QF.El (QF.cs ps)).ι c * fI ps gB → fI ps (prodG kA kM gA gM) * fI ps g0 = (QF.El (QF.cs ps)).ι c * fI ps (prodG kB kM gB gM) := by
  letI := (QF.El (QF.cs ps)).ring
  intro e
  rw [fI_prod h cA cM oA oM, fI_prod h cB cM oB oM]
  generalize fI ps gA = a at e ⊢
  generalize fI ps gB = b at e ⊢
  generalize fI ps gM = m at e ⊢
  generalize fI ps g0 = g at e ⊢
  grind
/-- below at its end -/
theorem fI_end {ps : List Nat} (h : Prm ps) {gB : Int → Rat} (oB : On ps gB) (n : ∀ p ∈ ps, ∀ r, gB r ≠ 0 → ¬ r % (p : Int) = 0) : fI ps gB = (QF.El (QF.cs ps)).ι (gB 1) := by
  unfold fI
  rw [← fr_one h.p]
  refine QF.fr_congr fun u _ => ?_
  by_cases e : u = 1
  · rw [if_pos e, e]
    rfl
  · rw [if_neg e]
    refine Classical.byContradiction fun z => e ?_
    have := only_one oB n z
    omega
theorem end_nz {ps : List Nat} {gB : Int → Rat} (oB : On ps gB) (n : ∀ p ∈ ps, ∀ r, gB r ≠ 0 → ¬ r % (p : Int) = 0) (z : Nz gB) : gB 1 ≠ 0 := by
  obtain ⟨r, hr⟩ := z
  rwa [only_one oB n hr] at hr
/-- scaled values -/
theorem fI_mul (ps : List Nat) (c : Rat) (g : Int → Rat) : letI := (QF.El (QF.cs ps)).ring; fI ps (fun r => c * g r) = (QF.El (QF.cs ps)).ι c * fI ps g := QF.fr_mul ps c fun r => g (r : Int)
/-- the quotient times the lower number is the upper one -/
theorem quot_right {ps : List Nat} (h : Prm ps) {k1 kA kq k0 : List Int} {g1 gA g0 gq go gu : Int → Rat} {c b c1 : Rat} (b0 : b ≠ 0) (c0 : c ≠ 0) (c10 : c1 ≠ 0) (v1 : Cov g1 k1) (vA : Cov gA kA) (vq : Cov gq kq) (v0 : Cov go k0) (o1 : On ps g1) (oA : On ps gA) (oq : On ps gq) (oo : On ps go) (ou : On ps gu)
    (e0 : ∀ r, g0 r = c * go r) (e1 : ∀ r, g1 r = c1 * gu r) (eq : ∀ r, c1 * b * gq r = prodG k1 kA g1 gA r) : letI := (QF.El (QF.cs ps)).ring; fI ps gA * fI ps g0 = (QF.El (QF.cs ps)).ι c * (QF.El (QF.cs ps)).ι b → ∀ r, prodG kq k0 gq go r = gu r := by
  letI := (QF.El (QF.cs ps)).ring
  intro e
  have z0 : fI ps g0 = (QF.El (QF.cs ps)).ι c * fI ps go := by
    rw [← fI_mul]
    exact QF.fr_congr fun u _ => e0 u
  have z1 : fI ps g1 = (QF.El (QF.cs ps)).ι c1 * fI ps gu := by
    rw [← fI_mul]
    exact QF.fr_congr fun u _ => e1 u
  have zq : (QF.El (QF.cs ps)).ι (c1 * b) * fI ps gq = fI ps g1 * fI ps gA := by
    rw [← fI_mul, ← fI_prod h v1 vA o1 oA]
    exact QF.fr_congr fun u _ => eq u
  have inv : ∀ q : Rat, q ≠ 0 → (QF.El (QF.cs ps)).ι q⁻¹ * (QF.El (QF.cs ps)).ι q = 1 := fun q hq => by
    rw [← (QF.El (QF.cs ps)).ιmul, Rat.inv_mul_cancel q hq, (QF.El (QF.cs ps)).ι1]
  refine fI_inj (prod_on h vq v0 oq oo) ou ?_
  rw [fI_prod h vq v0 oq oo]
  have i1 := inv c c0
  have i2 := inv b b0
  have i3 := inv c1 c10
  rw [(QF.El (QF.cs ps)).ιmul] at zq
  rw [z0] at e
  rw [z1] at zq
  generalize fI ps gq = Q at zq ⊢
  generalize fI ps go = O at e ⊢
  generalize fI ps gA = A at e zq
  generalize fI ps gu = U at zq ⊢
  generalize (QF.El (QF.cs ps)).ι c = C at i1 e
  generalize (QF.El (QF.cs ps)).ι c⁻¹ = C' at i1
  generalize (QF.El (QF.cs ps)).ι b = B at i2 e zq
  generalize (QF.El (QF.cs ps)).ι b⁻¹ = B' at i2
  generalize (QF.El (QF.cs ps)).ι c1 = D at i3 zq
  generalize (QF.El (QF.cs ps)).ι c1⁻¹ = D' at i3
  have a1 : A * O = B := by grind
  have a2 : B * Q = U * A := by grind
  have a3 : B * (Q * O) = B * U := by grind
  grind
/-! ### how many roots -/
theorem keys_len : ∀ ps : List Nat, (QF.keys ps).length = 2 ^ ps.length
  | [] => rfl
  | p :: ps => by
    show (QF.keys ps ++ (QF.keys ps).map fun r => p * r).length = 2 ^ (ps.length + 1)
    rw [List.length_append, List.length_map, keys_len ps, Nat.pow_succ]
    omega
theorem kI_len (ps : List Nat) : (kI ps).length = 2 ^ ps.length := by
  unfold kI
  rw [List.length_map, keys_len]
theorem nd_le {α : Type} [DecidableEq α] : ∀ {l m : List α}, l.Nodup → (∀ x ∈ l, x ∈ m) → l.length ≤ m.length
  | [], _, _, _ => Nat.zero_le _
  | a :: l, m, h, hm => by
    obtain ⟨h1, h2⟩ := List.nodup_cons.mp h
    have ha := hm a List.mem_cons_self
    have z := nd_le (l := l) (m := m.erase a) h2 fun x hx => (List.mem_erase_of_ne fun (e : x = a) => h1 (by rw [← e]; exact hx)).mpr (hm x (List.mem_cons_of_mem _ hx))
    rw [List.length_erase_of_mem ha] at z
    have p := List.length_pos_of_mem ha
    show l.length + 1 ≤ _
    omega
/-- keys of a product are roots of these primes; so there are at most 2 to the power of their number -/
theorem keys_prod {ps : List Nat} (h : Prm ps) {k1 k2 ks : List Int} (h1 : ∀ r ∈ k1, r ∈ kI ps) (h2 : ∀ r ∈ k2, r ∈ kI ps) (hu : ∀ u ∈ ks, ∃ r ∈ k1, ∃ s ∈ k2, u = mulR r s) : ∀ u ∈ ks, u ∈ kI ps := fun u m => by
  obtain ⟨r, hr, s, hs, rfl⟩ := hu u m
  obtain ⟨a, ha, rfl⟩ := List.mem_map.mp (h1 r hr)
  obtain ⟨b, hb, rfl⟩ := List.mem_map.mp (h2 s hs)
  rw [mulR_natK]
  exact List.mem_map.mpr ⟨_, QF.mu_keys h.p h.nd a ha b hb, rfl⟩
theorem keys_few {ps : List Nat} {ks : List Int} (nd : ks.Nodup) (hk : ∀ u ∈ ks, u ∈ kI ps) : ks.length ≤ 2 ^ ps.length := by
  rw [← kI_len]
  exact nd_le nd hk
/-! ### whole tops -/
def qv (t : Int → Int) (r : Int) : Rat := ((t r : Int) : Rat)
theorem intd_cov {H : Hp} {d : Addr} {ks : List Int} {t : Int → Int} (h : IntD H d ks t) : Cov (qv t) ks := by
  obtain ⟨_, _, _, _, nd, out⟩ := h
  refine ⟨nd, fun r hr => Classical.byContradiction fun z => hr ?_⟩
  unfold qv
  rw [out r z]
  rfl
theorem sumI_Q (f : Int → Int) : ∀ l : List Int, ((sumI (l.map f) : Int) : Rat) = sumQ (l.map fun r => ((f r : Int) : Rat))
  | [] => rfl
  | a :: l => by
    show ((f a + sumI (l.map f) : Int) : Rat) = ((f a : Int) : Rat) + sumQ (l.map fun r => ((f r : Int) : Rat))
    rw [Rat.intCast_add, sumI_Q f l]
/-- the products of whole tops -/
theorem prodI_G (k1 k2 : List Int) (t1 t2 : Int → Int) (u : Int) : qv (prodI k1 k2 t1 t2) u = prodG k1 k2 (qv t1) (qv t2) u := by
  unfold qv prodI prodG
  rw [sumI_Q]
  refine sumQ_congr fun r _ => ?_
  unfold rowI
  rw [sumI_Q]
  refine sumQ_congr fun s _ => ?_
  split
  · rw [Rat.intCast_mul, Rat.intCast_mul]
  · rfl
end TC
/-! upside_down: its loop, pure -/
namespace TC
open PySem PySem.Spec PyProof.Rows L2 TCA TCX
def mirI (p : Int) (t : Int → Int) (r : Int) : Int := if r % p = 0 then -(t r) else t r
theorem qv_mir (p : Nat) (t : Int → Int) (r : Int) : qv (mirI (p : Int) t) r = mir p (qv t) r := by
  unfold mirI mir qv
  dsimp only
  split
  · rw [Rat.intCast_neg]
    grind
  · grind
theorem mirI_abs (p : Int) (t : Int → Int) (r : Int) : (mirI p t r).natAbs = (t r).natAbs := by
  unfold mirI
  split
  · exact Int.natAbs_neg _
  · rfl
theorem kI_pos {ps : List Nat} (h : Prm ps) : ∀ r ∈ kI ps, 0 < r := fun r hr => by
  obtain ⟨u, hu, rfl⟩ := List.mem_map.mp hr
  have : ∀ {ps : List Nat}, (∀ y ∈ ps, QF.Pr y) → ∀ u ∈ QF.keys ps, 0 < u := by
    intro ps
    induction ps with
    | nil =>
      intro _ u hu
      rw [List.mem_singleton.mp hu]
      decide
    | cons x ps ih =>
      intro h u hu
      rcases List.mem_append.mp hu with z | z
      · exact ih (fun y hy => h y (List.mem_cons_of_mem _ hy)) u z
      · obtain ⟨v, hv, rfl⟩ := List.mem_map.mp z
        have a := ih (fun y hy => h y (List.mem_cons_of_mem _ hy)) v hv
        have b := (h x List.mem_cons_self).1
        exact Nat.mul_pos (by omega) a
  have := this h.p u hu
  omega
theorem on_of {ps : List Nat} {ks : List Int} {t : Int → Int} (hk : ∀ r ∈ ks, r ∈ kI ps) (out : ∀ r, r ∉ ks → t r = 0) : On ps (qv t) := fun r hr => hk r (Classical.byContradiction fun z => hr (by unfold qv; rw [out r z]; rfl))
theorem cov_of {ks : List Int} {t : Int → Int} (nd : ks.Nodup) (out : ∀ r, r ∉ ks → t r = 0) : Cov (qv t) ks := ⟨nd, fun r hr => Classical.byContradiction fun z => hr (by unfold qv; rw [out r z]; rfl)⟩
theorem qv_ne {t : Int → Int} {r : Int} : qv t r ≠ 0 ↔ t r ≠ 0 := by
  unfold qv
  exact ⟨fun h e => h (by rw [e]; rfl), fun h e => h (Rat.intCast_inj.mp (by rw [e]; rfl))⟩
structure Ups (ps : List Nat) (g0 : Int → Rat) (c : Rat) (s m i : Nat) (kA kB : List Int) (tA tB : Int → Int) : Prop where
  a : ∀ r ∈ kA, r ∈ kI ps
  b : ∀ r ∈ kB, r ∈ kI ps
  ndA : kA.Nodup
  ndB : kB.Nodup
  outA : ∀ r, r ∉ kA → tA r = 0
  outB : ∀ r, r ∉ kB → tB r = 0
  E : ∃ E, 0 < E ∧ E + s ≤ 2 ^ i * m ∧ (∀ r, (tA r).natAbs < 2 ^ E) ∧ ∀ r, (tB r).natAbs < 2 ^ E
  nz : Nz (qv tB)
  no : ∀ q ∈ ps.take i, ∀ r, qv tB r ≠ 0 → ¬ r % (q : Int) = 0
  eq : letI := (QF.El (QF.cs ps)).ring; fI ps (qv tA) * fI ps g0 = (QF.El (QF.cs ps)).ι c * fI ps (qv tB)
section
variable {ps : List Nat} {g0 : Int → Rat} {c : Rat} {s m i : Nat} {kA kB : List Int} {tA tB : Int → Int} {p : Nat}
theorem Ups.skip (h : Ups ps g0 c s m i kA kB tA tB) (hp : ps[i]? = some p) (n : ∀ r ∈ kB, ¬ r % (p : Int) = 0) : Ups ps g0 c s m (i + 1) kA kB tA tB := by
  refine ⟨h.a, h.b, h.ndA, h.ndB, h.outA, h.outB, ?_, h.nz, fun q hq r hr => ?_, h.eq⟩
  · obtain ⟨E, E0, E1, E2⟩ := h.E
    exact ⟨E, E0, Nat.le_trans E1 (Nat.mul_le_mul_right _ (Nat.pow_le_pow_right (by decide) (Nat.le_succ _))), E2⟩
  · rw [List.take_add_one, hp] at hq
    rcases List.mem_append.mp hq with z | z
    · exact h.no q z r hr
    · have e : q = p := by simpa using z
      rw [e]
      exact n r (Classical.byContradiction fun y => hr (by unfold qv; rw [h.outB r y]; rfl))
theorem fI_congr {ps : List Nat} {f g : Int → Rat} (e : ∀ r, f r = g r) : fI ps f = fI ps g := by
  have : f = g := funext e
  rw [this]
theorem Ups.step (P : Prm ps) (len : ps.length ≤ 6) {R : Nat} (hR : ∀ r ∈ kI ps, r.natAbs < 2 ^ R) (hs : R + 13 ≤ s) (h : Ups ps g0 c s m i kA kB tA tB) (hp : ps[i]? = some p) {kA' kB' : List Int}
    (ndA : kA'.Nodup) (ndB : kB'.Nodup) (outA : ∀ r, r ∉ kA' → prodI kA kB tA (mirI p tB) r = 0) (outB : ∀ r, r ∉ kB' → prodI kB kB tB (mirI p tB) r = 0)
    (sA : ∀ u ∈ kA', ∃ r ∈ kA, ∃ s ∈ kB, u = mulR r s) (sB : ∀ u ∈ kB', ∃ r ∈ kB, ∃ s ∈ kB, u = mulR r s) : Ups ps g0 c s m (i + 1) kA' kB' (prodI kA kB tA (mirI p tB)) (prodI kB kB tB (mirI p tB)) := by
  have outM : ∀ r, r ∉ kB → mirI p tB r = 0 := fun r hr => by
    have := mirI_abs p tB r
    rw [h.outB r hr] at this
    exact Int.natAbs_eq_zero.mp this
  have cA := cov_of h.ndA h.outA
  have cB := cov_of h.ndB h.outB
  have cM := cov_of h.ndB outM
  have oA := on_of h.a h.outA
  have oB := on_of h.b h.outB
  have oM := on_of h.b outM
  have pm : p ∈ ps := List.mem_of_getElem? hp
  have eM : ∀ r, qv (mirI (p : Int) tB) r = mir p (qv tB) r := qv_mir p tB
  have eA : ∀ u, qv (prodI kA kB tA (mirI p tB)) u = prodG kA kB (qv tA) (qv (mirI p tB)) u := fun u => prodI_G kA kB tA _ u
  have eB : ∀ u, qv (prodI kB kB tB (mirI p tB)) u = prodG kB kB (qv tB) (qv (mirI p tB)) u := fun u => prodI_G kB kB tB _ u
  have fM : qv (mirI (p : Int) tB) = mir p (qv tB) := funext eM
  refine ⟨keys_prod P h.a h.b sA, keys_prod P h.b h.b sB, ndA, ndB, outA, outB, ?_, ?_, fun q hq r hr => ?_, ?_⟩
  · obtain ⟨E, E0, E1, E2, E3⟩ := h.E
    have lB : kB.length ≤ 64 := Nat.le_trans (keys_few h.ndB h.b) (Nat.pow_le_pow_right (n := 2) (by decide) len)
    have lA : kA.length ≤ 64 := Nat.le_trans (keys_few h.ndA h.a) (Nat.pow_le_pow_right (n := 2) (by decide) len)
    have one : ∀ (k : List Int) (t : Int → Int), k.length ≤ 64 → (∀ r ∈ k, r ∈ kI ps) → (∀ r, (t r).natAbs < 2 ^ E) → ∀ u, (prodI k kB t (mirI p tB) u).natAbs < 2 ^ (E + E + s) := fun k t lk hk ht u => by
      have bt : ∀ r ∈ k, ∀ s ∈ kB, (t r * mirI p tB s * gR r s).natAbs ≤ 2 ^ (E + E + R) := fun r hr s hs => by
        refine Nat.le_of_lt (wide_lt (wide_lt (ht r) (by rw [mirI_abs]; exact E3 s)) ?_)
        unfold gR
        rw [Int.natAbs_natCast]
        have r0 := kI_pos P r (hk r hr)
        exact Nat.lt_of_le_of_lt (Nat.le_of_dvd (by omega) (Int.gcd_dvd_natAbs_left r s)) (hR r (hk r hr))
      refine Nat.lt_of_le_of_lt (prodI_le bt u) ?_
      have l2 : k.length * kB.length ≤ 64 * 64 := Nat.mul_le_mul lk lB
      refine Nat.lt_of_lt_of_le (m := 2 ^ (E + E + R + 13)) ?_ (Nat.pow_le_pow_right (by decide) (by omega))
      rw [Nat.pow_add 2 _ 13, Nat.mul_comm]
      exact Nat.mul_lt_mul_of_pos_left (show k.length * kB.length < 2 ^ 13 by omega) (Nat.pow_pos (by decide))
    refine ⟨E + E + s, by omega, ?_, one kA tA lA h.a E2, one kB tB lB h.b E3⟩
    rw [Nat.pow_succ, Nat.mul_right_comm]
    omega
  · have := prod_nz P cB (mir_cov (p := p) cB) oB (mir_on oB) h.nz (mir_Nz h.nz)
    obtain ⟨u, hu⟩ := this
    exact ⟨u, by rw [eB u, fM]; exact hu⟩
  · rw [eB r, fM] at hr
    rw [List.take_add_one, hp] at hq
    rcases List.mem_append.mp hq with z | z
    · exact prod_out P (List.mem_of_mem_take z) cB (mir_cov cB) oB (mir_on oB) (h.no q z) (fun w hw => h.no q z w (mir_nz.mp hw)) hr
    · have e : q = p := by simpa using z
      rw [e]
      exact prod_mir P pm cB oB hr
  · rw [fI_congr eA, fI_congr eB]
    exact inv_step P cA cB cM oA oB oM h.eq
theorem Ups.start (P : Prm ps) {k0 : List Int} {t0 : Int → Int} {cc : Int} {E : Nat} (hk : ∀ r ∈ k0, r ∈ kI ps) (nd : k0.Nodup) (out : ∀ r, r ∉ k0 → t0 r = 0) (E0 : 0 < E) (Em : E + s ≤ m) (hc : cc.natAbs < 2 ^ E) (ht : ∀ r, (t0 r).natAbs < 2 ^ E) (nz : Nz (qv t0)) :
    Ups ps (qv t0) (cc : Rat) s m 0 [1] k0 (setI (fun _ => 0) 1 cc) t0 := by
  have one : (1 : Int) ∈ kI ps := List.mem_map.mpr ⟨1, by
    clear hk
    have : ∀ ps : List Nat, 1 ∈ QF.keys ps := by
      intro ps
      induction ps with
      | nil => exact List.mem_singleton.mpr rfl
      | cons x ps ih => exact List.mem_append_left _ ih
    exact this ps, rfl⟩
  refine ⟨fun r hr => ?_, hk, by simp, nd, fun r hr => ?_, out, ⟨E, E0, by omega, fun r => ?_, ht⟩, nz, fun q hq => by simp at hq, ?_⟩
  · rw [List.mem_singleton.mp hr]
    exact one
  · unfold setI
    rw [if_neg fun e => hr (List.mem_singleton.mpr e)]
  · unfold setI
    split
    · exact hc
    · exact Nat.pow_pos (by decide)
  · letI := (QF.El (QF.cs ps)).ring
    show fI ps (qv (setI (fun _ => 0) 1 cc)) * _ = _
    have : fI ps (qv (setI (fun _ => 0) 1 cc)) = (QF.El (QF.cs ps)).ι (cc : Rat) := by
      rw [← fr_one P.p]
      refine QF.fr_congr fun u _ => ?_
      show qv (setI (fun _ => 0) 1 cc) (u : Int) = _
      unfold qv setI
      by_cases e : u = 1
      · rw [if_pos e, if_pos (by rw [e]; rfl)]
      · rw [if_neg e, if_neg (by omega)]
        rfl
    rw [this]
/-- at the loop's end -/
theorem Ups.last (h : Ups ps g0 c s m ps.length kA kB tA tB) (P : Prm ps) : tB 1 ≠ 0 ∧ (1 : Int) ∈ kB ∧ (letI := (QF.El (QF.cs ps)).ring; fI ps (qv tA) * fI ps g0 = (QF.El (QF.cs ps)).ι c * (QF.El (QF.cs ps)).ι (qv tB 1)) := by
  have no : ∀ p ∈ ps, ∀ r, qv tB r ≠ 0 → ¬ r % (p : Int) = 0 := fun p hp => h.no p (by rw [List.take_length]; exact hp)
  have oB := on_of h.b h.outB
  have nz := qv_ne.mp (end_nz oB no h.nz)
  refine ⟨nz, Classical.byContradiction fun z => nz (h.outB 1 z), ?_⟩
  rw [← fI_end P oB no]
  exact h.eq
end
/-- the end's equation -/
def UpEq (ps : List Nat) (g g0 : Int → Rat) (c b : Rat) : Prop := letI := (QF.El (QF.cs ps)).ring; fI ps g * fI ps g0 = (QF.El (QF.cs ps)).ι c * (QF.El (QF.cs ps)).ι b
end TC
namespace TC
set_option exponentiation.threshold 20000
open PySem PySem.Spec PyProof.Rows L2 TCA TCX
section
variable {P : Program} {w : World} {K : PySem.W.Frag} {mg : Str → Option Value} {base : Heap} {f : Addr} {fd : FuncData} {C fI fQ : Addr}
/-! ### upside_down: the rules fit; the steps are still to be written -/
def spUpside : Sp := fun vs H Q _ => ∃ (p l : Addr) (M : List Part) (ps : List Nat) (D A B R : Nat), vs = [.ref p, .ref l] ∧ PartsL H p M ∧ TCR.Canon M ∧ (∀ x ∈ M, x.2.den ∣ D) ∧ 0 < D ∧ D < 2 ^ B ∧ 0 < B ∧ B ≤ 8000 ∧ (∀ x ∈ M, x.2.num.natAbs < 2 ^ A) ∧ 0 < A ∧ A ≤ 20000 ∧ M.length ≤ 1000 ∧ M ≠ [] ∧
  Prm ps ∧ ps.length ≤ 6 ∧ (∀ x ∈ M, x.1 ∈ kI ps) ∧ (∀ r ∈ kI ps, r.natAbs < 2 ^ R) ∧ 0 < R ∧ R ≤ 1000 ∧ 64 * (A + B + R + 13) ≤ 8000 ∧ H l = some (.lst ((ps.map fun (x : Nat) => (x : Int)).map V.int)) ∧
  ∀ (v d : Addr) (ks : List Int) (t : Int → Int) (b : Int) (c : Nat) H', Same H H' → H v = none → H' v = some (.tup [.ref d, .int b]) → H d = none → IntD H' d ks t → (∀ r ∈ ks, r ∈ kI ps) → ks.length ≤ 64 → b ≠ 0 → b.natAbs < 2 ^ (64 * (A + B + R + 13)) → (∀ r, (t r).natAbs < 2 ^ (64 * (A + B + R + 13))) → 0 < c → (∀ x ∈ M, x.2.den ∣ c) →
    UpEq ps (qv t) (qv (topsOf M c)) ((c : Int) : Rat) ((b : Int) : Rat) → Q (.ref v) H'
abbrev nUpside : List Str := ["parts", "primes", "below", "bottom", "above", "prime", "root", "mirror", "top"]
theorem scUpside : FnScope nUpside ["parts", "primes"] (defScope sUpside) := ⟨rfl, rfl, rfl, by decide +kernel, rfl, by decide +kernel, by decide +kernel⟩
theorem ok_upside {fOB fPd : Addr} {fdOB fdPd : FuncData} (F : FnP K "upside_down" sUpside f fd) (GOB : FnOk P w K mg base CX0 2 fOB fdOB ["parts"] spOneB) (bOB : L2.Binds K fdOB ["parts"] []) (kOB : PySem.W.keepIn K (.ref fOB) = true) (gOB : mg "on_one_bottom" = some (.ref fOB))
    (GPd : FnOk P w K mg base CX0 2 fPd fdPd ["tops", "others"] spProducts) (bPd : L2.Binds K fdPd ["tops", "others"] []) (kPd : PySem.W.keepIn K (.ref fPd) = true) (gPd : mg "products" = some (.ref fPd)) (gany : mg "any" = none) :
    FnOk P w K mg base CX0 3 f fd ["parts", "primes"] spUpside := by
  refine F.ok scUpside (fun vs H Q E h => ?_) (fun cdv A outer s H vs Q E hr h => ?_)
  · obtain ⟨_, _, _, _, _, _, _, _, rfl, _⟩ := h
    rfl
  obtain ⟨p, l, M, ps, D, A, B, R, rfl, hp, cM, dD, D0, DB, B0, B8, zA, A0, A2, len, mn, PP, pl, hk, hkR, R0, R1, bd, hl, q⟩ := h
  have hu := hu_of hr
  have hr2 := hr
  refine ⟨_, PSs.nox (C8.pss_cut (ps_asg (pe_call GOB hr2 (by rfl) gOB kOB bOB .nil pass0 (pa_cons (pv 0) pa_nil)) (pg_tup rfl (pgs_cons (pg_name (i := 2) scUpside.nd rfl (.inl rfl)) (pgs_cons (pg_name (i := 3) scUpside.nd rfl (.inl rfl)) pgs_nil))))
      (C8.pss_cut (ps_set (i := 4) scUpside.nd rfl (.inl rfl) (pe_disp (pps_cons pe_int (pv 3) pps_nil) (by rfl) (by rfl) (fun z => by cases z) (by decide)))
      (C8.pss_cut (ps_for PassesOwn.never rfl (pi_list (pv 1)) (pg_name (i := 5) scUpside.nd rfl (.inr rfl))
        (pss_one (ps_if (pt_val (pe_lock (pe_callB (cr_any rfl) (by rfl) gany (by decide +kernel) (pa_cons (pe_lc (own := [("root", 6)]) (g := gName 6) (tt := tYes) (te := (tOp rEq (tOp (rI (fun _ j => 0 < j) fun i j => .int (i % j)) (tVar 6) (tVar 5)) (tC (.int 0)))) (by rfl) scUpside.nd (pi_keys (pv 2))
          (blkOk_by (N := nUpside) (sc := defScope sUpside) (by decide +kernel)) (fun _ _ _ _ _ => pg_name (i := 6) scUpside.nd rfl (.inl rfl)) (fun _ _ _ _ _ => pts_nil) (fun _ _ _ _ _ => (pe_cmpR op_eq (pe_op op_mod (pv 6) (pv 5)) pe_int (nomark _)))) pa_nil))))
          (C8.pss_cut (ps_lock (ps_setDc (i := 7) (own := [("root", 6), ("top", 8)]) (g := gTup K 2 (gCons (gName 6) (gCons (gName 8) gNil))) (tt := tYes) (tk := tVar 6) (tv := tIf (tTest (tOp rEq (tOp (rI (fun _ j => 0 < j) fun i j => .int (i % j)) (tVar 6) (tVar 5)) (tC (.int 0)))) (tUn (rU fun i => .int (-i)) (tVar 8)) (tVar 8)) rfl scUpside.nd rfl rfl (sw_dict rfl rfl rfl (by decide +kernel)) (pi_items (pv 2))
          (blkOk_by (N := nUpside) (sc := defScope sUpside) (by decide +kernel)) (fun _ _ _ _ _ => pg_tup rfl (pgs_cons (pg_name (i := 6) scUpside.nd rfl (.inl rfl)) (pgs_cons (pg_name (i := 8) scUpside.nd rfl (.inl rfl)) pgs_nil))) (fun _ _ _ _ _ => pts_nil) (fun _ _ _ _ _ => pv 6) (fun _ _ _ _ _ => pe_ifExp (pt_cmpR op_eq (pe_op op_mod (pv 6) (pv 5)) pe_int (nomark _)) (pe_un un_neg (pv 8)) (pv 8))))
          (C8.pss_cut (ps_set (i := 4) scUpside.nd rfl (.inl rfl) (pe_call GPd hr2 (by rfl) gPd kPd bPd .nil pass0 (pa_cons (pv 4) (pa_cons (pv 7) pa_nil))))
          (pss_one (ps_set (i := 2) scUpside.nd rfl (.inl rfl) (pe_call GPd hr2 (by rfl) gPd kPd bPd .nil pass0 (pa_cons (pv 2) (pa_cons (pv 7) pa_nil))))))) pss_nil)))
      (pss_one (ps_ret (pe_tup (pa_cons (pv 4) (pa_cons (pe_dget hu (pv 2) pe_int (fun _ _ => rfl)) pa_nil)))))))), ?_⟩
  obtain ⟨us, hp', hL⟩ := id hp
  refine ⟨fun σ1 H1 => ∃ (dB : Addr) (c : Nat), σ1 = [some (.ref p), some (.ref l), some (.ref dB), some (.int (c : Int)), none, none, none, none, none] ∧ Same H H1 ∧ H dB = none ∧ IntD H1 dB (M.map (·.1)) (topsOf M c) ∧ 0 < c ∧ c ∣ D ∧ (∀ x ∈ M, x.2.den ∣ c), ?_, fun σ1 H1 h1 => ?_⟩
  · refine ⟨_, rfl, p, M, D, A, B, rfl, hp, cM, dD, D0, DB, B0, B8, zA, A0, A2, len, fun v dB c H1 s1 hv1 ev1 hd1 i1 c0 cD cd => ?_⟩
    refine ⟨v, _, rfl, SqT.of ev1, rfl, _, _, rfl, _, _, rfl, rfl, ?_⟩
    exact ⟨dB, c, rfl, s1, hd1, i1, c0, cD, cd⟩
  obtain ⟨dB, c, rfl, s1, hdB, iB, c0, cD, cd⟩ := h1
  refine ⟨fun σ2 H2 => ∃ (dA : Addr), σ2 = [some (.ref p), some (.ref l), some (.ref dB), some (.int (c : Int)), some (.ref dA), none, none, none, none] ∧ Same H H2 ∧ IntD H2 dB (M.map (·.1)) (topsOf M c) ∧ IntD H2 dA [1] (setI (fun _ => 0) 1 (c : Int)) ∧ H dA = none, ?_, fun σ2 H2 h2 => ?_⟩
  · intro dA hA
    have sA := same_upd (o := .dK []) hA
    refine ⟨_, rfl, upd_same, [(Sum.inl 1, .int (c : Int))], rfl, by show 1 ≤ 15; decide, ?_⟩
    have e2 : upd (upd H1 dA (.dK [])) dA (.dK (mergeK [] [(Sum.inl 1, .int (c : Int))])) = upd H1 dA (.dK [(Sum.inl 1, .int (c : Int))]) := by
      funext b
      unfold L2.upd
      split <;> rfl
    rw [e2]
    refine ⟨dA, rfl, s1.trans (same_upd hA), iB.same (same_upd hA), ⟨[(Sum.inl 1, .int (c : Int))], upd_same, rfl, fun r hr => ?_, by simp, fun r hr => ?_⟩, s1.free hA⟩
    · rw [List.mem_singleton.mp hr]
      rfl
    · unfold setI
      rw [if_neg fun e => hr (List.mem_singleton.mpr e)]
  obtain ⟨dA, rfl, s2, iB2, iA2, hdA⟩ := h2
  refine ⟨fun σ3 H3 => ∃ (dA dB : Addr) (kA kB : List Int) (tA tB : Int → Int) (v5 v6 v7 v8 : Option V), σ3 = [some (.ref p), some (.ref l), some (.ref dB), some (.int (c : Int)), some (.ref dA), v5, v6, v7, v8] ∧ Same H H3 ∧ H dA = none ∧ IntD H3 dA kA tA ∧ IntD H3 dB kB tB ∧ Ups ps (qv (topsOf M c)) (((c : Int)) : Rat) (R + 13) (A + B + R + 13) ps.length kA kB tA tB, ?_, fun σ3 H3 h3 => ?_⟩
  · refine ⟨_, rfl, l, rfl, ⟨_, SqL.of (s2 _ _ hl)⟩, for_list (xs := (ps.map fun (x : Nat) => (x : Int)).map V.int) (fun i σ H' => ∃ (dA dB : Addr) (kA kB : List Int) (tA tB : Int → Int) (v5 v6 v7 v8 : Option V), σ = [some (.ref p), some (.ref l), some (.ref dB), some (.int (c : Int)), some (.ref dA), v5, v6, v7, v8] ∧ Same H H' ∧ H dA = none ∧ IntD H' dA kA tA ∧ IntD H' dB kB tB ∧ Ups ps (qv (topsOf M c)) (((c : Int)) : Rat) (R + 13) (A + B + R + 13) i kA kB tA tB)
      ⟨dA, dB, [1], M.map (·.1), _, _, none, none, none, none, rfl, s2, hdA, iA2, iB2, ?_⟩ (fun i σ H' _ hP => ?_) (fun i x σ H' hx hP => ?_) (fun σ H' hP => ?_)⟩
    · obtain ⟨kv, e1, e2, e3, e4, e5⟩ := iB2
      have cB : c < 2 ^ B := Nat.lt_of_le_of_lt (Nat.le_of_dvd D0 cD) DB
      have zv : ∀ r, (TCR.val M r).num.natAbs < 2 ^ A := fun r => by
        rcases Classical.em (∃ q, (r, q) ∈ M) with ⟨q, z⟩ | z
        · rw [cM.mem z]
          exact zA _ z
        · rw [TCR.val_not fun x hx e => z ⟨x.2, by rw [← e]; exact hx⟩]
          exact Nat.pow_pos (by decide)
      refine Ups.start (E := A + B) PP (fun r hr => ?_) e4 e5 (by omega) (by omega) ?_ (fun r => tops_lt cB zv r) ?_
      · obtain ⟨x, hx, rfl⟩ := List.mem_map.mp hr
        exact hk x hx
      · rw [Int.natAbs_natCast]
        exact Nat.lt_of_lt_of_le cB (Nat.pow_le_pow_right (by decide) (by omega))
      · obtain ⟨x, hx⟩ := List.exists_mem_of_ne_nil M mn
        refine ⟨x.1, qv_ne.mpr fun e => ?_⟩
        have z := topsOf_div (L := M) c0 x.1 (by rw [cM.mem hx]; exact cd x hx)
        rw [e, Rat.zero_divInt, cM.mem hx] at z
        exact cM.nz x hx z.symm
    · obtain ⟨_, _, _, _, _, _, _, _, _, _, _, sm, _⟩ := hP
      exact SqL.of (sm _ _ hl)
    · obtain ⟨dA, dB, kA, kB, tA, tB, v5, v6, v7, v8, rfl, sm, hdA, iA, iB, U⟩ := hP
      rw [List.getElem?_map, List.getElem?_map] at hx
      obtain ⟨q0, hq0, rfl⟩ : ∃ q0, ps[i]? = some q0 ∧ V.int (q0 : Int) = x := by
        cases e : ps[i]? with
        | none =>
          rw [e] at hx
          cases hx
        | some z =>
          rw [e] at hx
          exact ⟨z, rfl, Option.some.inj hx⟩
      have il : i < ps.length := (List.getElem?_eq_some_iff.mp hq0).1
      have q2 : 2 ≤ q0 := (PP.p q0 (List.mem_of_getElem? hq0)).1
      have q00 : (0 : Int) < (q0 : Int) := by omega
      obtain ⟨kvB, b1, b2, b3, b4, b5⟩ := id iB
      have lkB := len_keys b2
      have lB : kB.length ≤ 64 := Nat.le_trans (keys_few U.ndB U.b) (Nat.pow_le_pow_right (n := 2) (by decide) pl)
      have lA : kA.length ≤ 64 := Nat.le_trans (keys_few U.ndA U.a) (Nat.pow_le_pow_right (n := 2) (by decide) pl)
      -- any
      refine ⟨dB, .dK kvB, b1, trivial, fun o => ?_⟩
      refine ⟨_, rfl, dB, o, rfl, .inl ⟨kvB, upd_same, fun D hD => ?_⟩⟩
      have nDB : dB ≠ D := ne_of_none (upd_same (H := H') (a := dB) (o := .frz o (.dK kvB))) hD
      refine lc_it walk_keys (fun j G => (∀ b o', H' b = some o' → b ≠ dB → G b = some o') ∧ G dB = some (.frz o (.dK kvB)) ∧ G D = some (.lst (((kB.take j).map fun r => decide (r % (q0 : Int) = 0)).map V.bl))) ⟨fun b o' e hb => ?_, by rw [upd_ne nDB]; exact upd_same, upd_same⟩ (fun j G _ hP => hP.2.1) (fun j x G G2 hj hP hy => ?_) (fun G hP => ?_)
      · exact same_upd hD _ _ (by rw [upd_ne hb]; exact e)
      · obtain ⟨rfl, k, v, hkv, rfl⟩ := hy
        obtain ⟨g1, g2, g3⟩ := hP
        obtain ⟨r, hr, rfl⟩ := key_at b2 hkv
        have et : kB.take (j + 1) = kB.take j ++ [r] := by
          rw [List.take_add_one, hr]
          rfl
        refine ⟨rfl, _, rfl, _, rfl, r, (q0 : Int), rfl, rfl, q00, rfl, _, g3, ?_, fun b o' e hb => ?_, ?_, ?_⟩
        · rw [List.length_map, List.length_map, List.length_take]
          exact Nat.lt_of_le_of_lt (m := 1000) (by omega) (by decide)
        · have nb : b ≠ D := fun z => by
            rw [z] at e hb
            have := (by rw [upd_ne hb]; exact e : (upd H' dB (.frz o (.dK kvB))) D = some o')
            rw [hD] at this
            cases this
          rw [upd_ne nb]
          exact g1 _ _ e hb
        · rw [upd_ne nDB]
          exact g2
        · rw [upd_same, et, List.map_append, List.map_append]
          show some (HO.lst (_ ++ [V.bl (decide (V.int (r % (q0 : Int)) = V.int 0))])) = some (HO.lst (_ ++ [V.bl (decide (r % (q0 : Int) = 0))]))
          rw [show decide (V.int (r % (q0 : Int)) = V.int 0) = decide (r % (q0 : Int) = 0) from decide_eq_decide.mpr ⟨fun z => V.int.inj z, fun z => congrArg V.int z⟩]
      · obtain ⟨g1, g2, g3⟩ := hP
        rw [lkB, List.take_length] at g3
        refine ⟨D, kB.map (fun r => decide (r % (q0 : Int) = 0)), rfl, SqL.of g3, g2, _, rfl, ?_⟩
        have smq : Same H' (upd G dB (.dK kvB)) := fun b o' e => by
          by_cases hb : b = dB
          · rw [hb, upd_same]
            rw [hb, b1] at e
            exact e
          · rw [upd_ne hb]
            exact g1 _ _ e hb
        generalize upd G dB (.dK kvB) = Hq at smq ⊢
        have smH := sm.trans smq
        by_cases an : ∃ r ∈ kB, r % (q0 : Int) = 0
        · have ea : (kB.map (fun r => decide (r % (q0 : Int) = 0))).any id = true := by
            obtain ⟨r, hr, z⟩ := an
            exact List.any_eq_true.mpr ⟨_, List.mem_map.mpr ⟨r, hr, rfl⟩, decide_eq_true z⟩
          rw [ea]
          refine ⟨fun σ4 H4 => ∃ dM : Addr, σ4 = [some (.ref p), some (.ref l), some (.ref dB), some (.int (c : Int)), some (.ref dA), some (.int (q0 : Int)), v6, some (.ref dM), v8] ∧ Same Hq H4 ∧ Hq dM = none ∧ IntD H4 dM kB (mirI q0 tB), ?_, fun σ4 H4 h4 => ?_⟩
          · refine ⟨dB, .dK kvB, smq _ _ b1, trivial, fun o2 => ?_⟩
            refine ⟨_, rfl, dB, o2, kvB, rfl, upd_same, fun D2 hD2 => ?_⟩
            have nD2 : dB ≠ D2 := ne_of_none (upd_same (H := Hq) (a := dB) (o := .frz o2 (.dK kvB))) hD2
            have hqD : Hq D2 = none := by
              rw [upd_ne nD2.symm] at hD2
              exact hD2
            refine dc_it (walk_items (d := dB) (o := o2) (kvs := kvB)) (fun j G => (∀ b o', Hq b = some o' → b ≠ dB → G b = some o') ∧ G dB = some (.frz o2 (.dK kvB)) ∧ IntD G D2 (kB.take j) (fun r => if r ∈ kB.take j then mirI q0 tB r else 0)) ⟨fun b o' e hb => ?_, by rw [upd_ne nD2]; exact upd_same, [], upd_same, rfl, (fun r hr => by cases hr), List.nodup_nil, fun r _ => by simp⟩ (fun j G _ hP => hP.2.1) (fun j x G G2 hj hP hy => ?_) (fun G hP => ?_)
            · exact same_upd hD2 _ _ (by rw [upd_ne hb]; exact e)
            · obtain ⟨T3, x, y, rfl, hT3, rfl, hx, hy⟩ := hy
              obtain ⟨g1, g2, g3⟩ := hP
              obtain ⟨u, hu', rfl, rfl⟩ := int_at b2 b3 b4 hx hy
              have sm3 := same_upd (o := .tup [.int u, .int (tB u)]) hT3
              refine ⟨T3, _, rfl, SqT.of upd_same, rfl, _, _, rfl, _, _, rfl, rfl, rfl, ?_⟩
              have et : kB.take (j + 1) = kB.take j ++ [u] := by
                rw [List.take_add_one, hu']
                rfl
              have un : u ∉ kB.take j := fun z => by
                have := U.ndB
                rw [← List.take_append_drop (j + 1) kB, et] at this
                have := (List.nodup_append.mp (List.nodup_append.mp this).1).2.2 u z u (List.mem_singleton.mpr rfl)
                exact this rfl
              obtain ⟨kvD, w1, w2, w3, w4, w5⟩ := g3.same sm3
              have ad : addKey (kB.take j) u = kB.take (j + 1) := by
                unfold addKey
                rw [if_neg un, et]
              have fin : ∀ z : Int, z = mirI q0 tB u → ∃ kvs k, V.int u = kV k ∧ (upd G T3 (.tup [.int u, .int (tB u)])) D2 = some (.dK kvs) ∧ kvs.length < sizeLine ∧ ((∀ b o', Hq b = some o' → b ≠ dB → (upd (upd G T3 (.tup [.int u, .int (tB u)])) D2 (.dK (putK kvs k (.int z)))) b = some o') ∧ (upd (upd G T3 (.tup [.int u, .int (tB u)])) D2 (.dK (putK kvs k (.int z)))) dB = some (.frz o2 (.dK kvB)) ∧ IntD (upd (upd G T3 (.tup [.int u, .int (tB u)])) D2 (.dK (putK kvs k (.int z)))) D2 (kB.take (j + 1)) (fun r => if r ∈ kB.take (j + 1) then mirI q0 tB r else 0)) := fun z ez => by
                refine ⟨kvD, Sum.inl u, rfl, w1, Nat.lt_of_le_of_lt (m := 1000) (by rw [len_keys w2, List.length_take]; omega) (by decide), fun b o' e hb => ?_, ?_, ?_⟩
                · have nb : b ≠ D2 := fun z => by
                    rw [z, hqD] at e
                    cases e
                  rw [upd_ne nb]
                  exact sm3 _ _ (g1 _ _ e hb)
                · rw [upd_ne nD2]
                  exact sm3 _ _ g2
                · rw [← ad]
                  refine (putI_ok (r := u) w2 w3 w4 w5).imp fun s => ?_
                  rw [ad]
                  unfold setI
                  by_cases es : s = u
                  · rw [if_pos es, es, if_pos (by rw [et]; exact List.mem_append_right _ (List.mem_singleton.mpr rfl)), ez]
                  · rw [if_neg es]
                    show (if s ∈ kB.take j then mirI q0 tB s else 0) = if s ∈ kB.take (j + 1) then mirI q0 tB s else 0
                    by_cases m : s ∈ kB.take j
                    · rw [if_pos m, if_pos (by rw [et]; exact List.mem_append_left _ m)]
                    · rw [if_neg m, if_neg fun z => by
                        rw [et] at z
                        rcases List.mem_append.mp z with z | z
                        · exact m z
                        · exact es (List.mem_singleton.mp z)]
              refine ⟨_, rfl, _, rfl, _, rfl, u, (q0 : Int), rfl, rfl, q00, rfl, _, rfl, ?_⟩
              by_cases z : u % (q0 : Int) = 0
              · exact iteD1 (congrArg V.int z) ⟨_, rfl, tB u, rfl, fin _ (by unfold mirI; rw [if_pos z])⟩
              · exact iteD0 (ine z) ⟨_, rfl, fin _ (by unfold mirI; rw [if_neg z])⟩
            · obtain ⟨g1, g2, g3⟩ := hP
              rw [lkB, List.take_length] at g3
              have smD : Same Hq (upd G dB (.dK kvB)) := fun b o' e => by
                by_cases hb : b = dB
                · rw [hb, upd_same]
                  rw [hb, smq _ _ b1] at e
                  exact e
                · rw [upd_ne hb]
                  exact g1 _ _ e hb
              refine ⟨g2, D2, rfl, smD, hqD, (g3.upd nD2.symm).imp fun r => ?_⟩
              by_cases m : r ∈ kB
              · rw [if_pos m]
              · rw [if_neg m]
                have := mirI_abs q0 tB r
                rw [b5 r m] at this
                exact (Int.natAbs_eq_zero.mp this).symm
          obtain ⟨dM, rfl, s4, hdM, iM⟩ := h4
          obtain ⟨E, E0, E1, E2, E3⟩ := U.E
          have kp : ∀ {k : List Int}, (∀ r ∈ k, r ∈ kI ps) → ∀ r ∈ k, 0 < r ∧ r.natAbs < 2 ^ R := fun h r hr => ⟨kI_pos PP r (h r hr), hkR r (h r hr)⟩
          have p6 : 2 ^ i * (A + B + R + 13) ≤ 64 * (A + B + R + 13) := Nat.mul_le_mul_right _ (Nat.pow_le_pow_right (n := 2) (i := i) (j := 6) (by decide) (by omega))
          have ll : kA.length * kB.length ≤ 64 * 64 := Nat.mul_le_mul lA lB
          have ll2 : kB.length * kB.length ≤ 64 * 64 := Nat.mul_le_mul lB lB
          have iA4 := (iA.same smq).same s4
          have iB4 := (iB.same smq).same s4
          have nAM : dA ≠ dM := by
            obtain ⟨_, z, _⟩ := iA.same smq
            exact ne_of_none z hdM
          have nBM : dB ≠ dM := ne_of_none (smq _ _ b1) hdM
          refine ⟨fun σ5 H5 => ∃ (dA' : Addr) (kA' : List Int), σ5 = [some (.ref p), some (.ref l), some (.ref dB), some (.int (c : Int)), some (.ref dA'), some (.int (q0 : Int)), v6, some (.ref dM), v8] ∧ Same H4 H5 ∧ H4 dA' = none ∧ IntD H5 dA' kA' (prodI kA kB tA (mirI q0 tB)) ∧ (∀ u ∈ kA', ∃ r ∈ kA, ∃ s ∈ kB, u = mulR r s), ?_, fun σ5 H5 h5 => ?_⟩
          · exact ⟨_, rfl, _, rfl, dA, dM, kA, kB, tA, mirI q0 tB, E, E, R, rfl, nAM, iA4, iM, kp U.a, kp U.b, E2, fun r => by rw [mirI_abs]; exact E3 r, E0, E0, by omega, R0, by omega, by omega, fun d ks H5 s5 hd5 i5 lk sub => ⟨d, ks, rfl, s5, hd5, i5, sub⟩⟩
          obtain ⟨dA', kA', rfl, s5, hdA', iA5, subA⟩ := h5
          refine ⟨_, rfl, _, rfl, dB, dM, kB, kB, tB, mirI q0 tB, E, E, R, rfl, nBM, iB4.same s5, iM.same s5, kp U.b, kp U.b, E3, fun r => by rw [mirI_abs]; exact E3 r, E0, E0, by omega, R0, by omega, by omega, fun d ks H6 s6 hd6 i6 lk sub => ?_⟩
          have iA6 := iA5.same s6
          obtain ⟨_, _, _, _, na, oa⟩ := id iA6
          obtain ⟨_, _, _, _, nb, ob⟩ := id i6
          exact ⟨dA', d, kA', ks, _, _, _, v6, _, v8, rfl, ((smH.trans s4).trans s5).trans s6, (smH.trans s4).free hdA', iA6, i6, U.step PP pl hkR (Nat.le_refl _) hq0 na nb oa ob subA sub⟩
        · have ea : (kB.map (fun r => decide (r % (q0 : Int) = 0))).any id = false := by
            refine Bool.eq_false_iff.mpr fun z => ?_
            obtain ⟨y, hy, z⟩ := List.any_eq_true.mp z
            obtain ⟨r, hr, rfl⟩ := List.mem_map.mp hy
            exact an ⟨r, hr, of_decide_eq_true z⟩
          rw [ea]
          exact ⟨dA, dB, kA, kB, tA, tB, _, v6, v7, v8, rfl, smH, hdA, iA.same smq, iB.same smq, U.skip hq0 fun r hr z => an ⟨r, hr, z⟩⟩
    · obtain ⟨dA, dB, kA, kB, tA, tB, v5, v6, v7, v8, rfl, sm, hdA, iA, iB, U⟩ := hP
      rw [List.length_map, List.length_map] at U
      exact ⟨dA, dB, kA, kB, tA, tB, v5, v6, v7, v8, rfl, sm, hdA, iA, iB, U⟩
  obtain ⟨dA, dB, kA, kB, tA, tB, v5, v6, v7, v8, rfl, s3, hdA, iA, iB, U⟩ := h3
  obtain ⟨nz, one, eq⟩ := U.last PP
  obtain ⟨kvB, b1, b2, b3, b4, b5⟩ := id iB
  refine ⟨_, rfl, _, rfl, dB, _, rfl, dget_in b1 (b3 1 one), by show 2 ≤ sizeLine; decide, fun v hv => ?_⟩
  have sv := same_upd (o := .tup [.ref dA, .int (tB 1)]) hv
  have lA : kA.length ≤ 64 := Nat.le_trans (keys_few U.ndA U.a) (Nat.pow_le_pow_right (n := 2) (by decide) pl)
  obtain ⟨E, E0, E1, E2, E3⟩ := U.E
  have p6 : 2 ^ ps.length * (A + B + R + 13) ≤ 64 * (A + B + R + 13) := Nat.mul_le_mul_right _ (Nat.pow_le_pow_right (n := 2) (by decide) pl)
  have pe : 2 ^ E ≤ 2 ^ (64 * (A + B + R + 13)) := Nat.pow_le_pow_right (by decide) (by omega)
  exact q v dA kA tA (tB 1) c _ (s3.trans sv) (s3.free hv) upd_same hdA (iA.same sv) U.a lA nz (Nat.lt_of_lt_of_le (E3 1) pe) (fun r => Nat.lt_of_lt_of_le (E2 r) pe) c0 cd eq
end
end TC
/-! the primes in a number's roots; the quotient, pure -/
namespace TC
open PySem PySem.Spec PyProof.Rows L2 TCA TCX
/-- the primes below 1000 -/
def allP : List Nat := primes.map Int.toNat
theorem primes_all : primes = allP.map fun (p : Nat) => (p : Int) := by decide +kernel
def prB (p : Nat) : Bool := Nat.ble 2 p && (List.range p).all fun d => Nat.ble d 1 || !Nat.beq (p % d) 0
theorem pr_of {p : Nat} (h : prB p = true) : QF.Pr p := by
  unfold prB at h
  rw [Bool.and_eq_true] at h
  obtain ⟨h1, h2⟩ := h
  have p2 := Nat.le_of_ble_eq_true h1
  refine ⟨p2, fun d hd => ?_⟩
  have dp : 0 < d := Nat.pos_of_dvd_of_pos hd (by omega)
  have dl := Nat.le_of_dvd (by omega) hd
  rcases Nat.lt_or_ge d p with z | z
  · have := List.all_eq_true.mp h2 d (List.mem_range.mpr z)
    rw [Bool.or_eq_true] at this
    rcases this with y | y
    · have := Nat.le_of_ble_eq_true y
      exact .inl (by omega)
    · rw [Nat.mod_eq_zero_of_dvd hd] at y
      cases y
  · exact .inr (by omega)
theorem allP_prm : Prm allP := ⟨fun y hy => pr_of (List.all_eq_true.mp (show allP.all prB = true by decide +kernel) y hy), by decide +kernel⟩
theorem keys_dvd {D : Nat} : ∀ {ps : List Nat}, (∀ y ∈ ps, QF.Pr y ∧ y ∣ D) → ps.Nodup → ∀ r ∈ QF.keys ps, r ∣ D
  | [], _, _, r, hr => by
    rw [List.mem_singleton.mp hr]
    exact Nat.one_dvd _
  | p :: ps, h, nd, r, hr => by
    obtain ⟨n1, n2⟩ := List.nodup_cons.mp nd
    have ih := keys_dvd (ps := ps) (D := D) (fun y hy => h y (List.mem_cons_of_mem _ hy)) n2
    rcases List.mem_append.mp hr with z | z
    · exact ih r z
    · obtain ⟨s, hs, rfl⟩ := List.mem_map.mp z
      have hp := h p List.mem_cons_self
      have no := (QF.keys_no hp.1 (ps := ps) (fun y hy => ⟨(h y (List.mem_cons_of_mem _ hy)).1, fun e => n1 (e ▸ hy)⟩) s hs).2
      exact Nat.Coprime.mul_dvd_of_dvd_of_dvd (QF.cop hp.1 no) hp.2 (ih s hs)
theorem keys_filter {q : Nat → Bool} : ∀ {ps : List Nat}, (∀ y ∈ ps, QF.Pr y) → ps.Nodup → ∀ r ∈ QF.keys ps, (∀ p ∈ ps, p ∣ r → q p = true) → r ∈ QF.keys (ps.filter q)
  | [], _, _, r, hr, _ => hr
  | p :: ps, h, nd, r, hr, hq => by
    obtain ⟨n1, n2⟩ := List.nodup_cons.mp nd
    have ih := keys_filter (q := q) (ps := ps) (fun y hy => h y (List.mem_cons_of_mem _ hy)) n2
    rcases List.mem_append.mp hr with z | z
    · have := ih r z fun y hy => hq y (List.mem_cons_of_mem _ hy)
      rw [List.filter_cons]
      split
      · exact List.mem_append_left _ this
      · exact this
    · obtain ⟨s, hs, rfl⟩ := List.mem_map.mp z
      rw [List.filter_cons_of_pos (hq p List.mem_cons_self (Nat.dvd_mul_right _ _))]
      exact List.mem_append_right _ (List.mem_map.mpr ⟨s, ih s hs fun y hy z => hq y (List.mem_cons_of_mem _ hy) (Nat.dvd_trans z (Nat.dvd_mul_left _ _)), rfl⟩)
/-- keys of fewer primes are keys of more -/
theorem keys_more {q : Nat → Bool} : ∀ {ps : List Nat} (r : Nat), r ∈ QF.keys (ps.filter q) → r ∈ QF.keys ps
  | [], r, hr => hr
  | p :: ps, r, hr => by
    rw [List.filter_cons] at hr
    split at hr
    · rcases List.mem_append.mp hr with z | z
      · exact List.mem_append_left _ (keys_more r z)
      · obtain ⟨s, hs, rfl⟩ := List.mem_map.mp z
        exact List.mem_append_right _ (List.mem_map.mpr ⟨s, keys_more s hs, rfl⟩)
    · exact List.mem_append_left _ (keys_more r hr)
/-- the primes in the roots -/
def inR (M : List Part) (p : Nat) : Bool := M.any fun x => decide (x.1 % (p : Int) = 0)
def psOf (M : List Part) : List Nat := allP.filter (inR M)
theorem psOf_prm (M : List Part) : Prm (psOf M) := ⟨fun y hy => allP_prm.p y ((List.mem_filter.mp hy).1), allP_prm.nd.sublist List.filter_sublist⟩
theorem inR_iff {M : List Part} {p : Nat} : inR M p = true ↔ ∃ x ∈ M, x.1 % (p : Int) = 0 := by
  unfold inR
  rw [List.any_eq_true]
  exact ⟨fun ⟨x, hx, z⟩ => ⟨x, hx, of_decide_eq_true z⟩, fun ⟨x, hx, z⟩ => ⟨x, hx, decide_eq_true z⟩⟩
def rootsProd : List Part → Nat
  | [] => 1
  | x :: M => x.1.natAbs * rootsProd M
theorem rootsProd_dvd : ∀ {M : List Part}, ∀ x ∈ M, x.1.natAbs ∣ rootsProd M
  | y :: M, x, hx => by
    rcases List.mem_cons.mp hx with e | e
    · rw [e]
      exact Nat.dvd_mul_right _ _
    · exact Nat.dvd_trans (rootsProd_dvd x e) (Nat.dvd_mul_left _ _)
theorem rootsProd_pr {p : Nat} (hp : QF.Pr p) : ∀ {M : List Part}, p ∣ rootsProd M → ∃ x ∈ M, p ∣ x.1.natAbs
  | [], h => absurd h hp.one
  | y :: M, h => by
    rcases hp.euclid h with z | z
    · exact ⟨y, List.mem_cons_self, z⟩
    · obtain ⟨x, hx, z⟩ := rootsProd_pr hp z
      exact ⟨x, List.mem_cons_of_mem _ hx, z⟩
theorem mod_abs {r : Int} {p : Nat} : r % (p : Int) = 0 ↔ p ∣ r.natAbs := by
  rw [← Int.dvd_iff_emod_eq_zero]
  exact Int.ofNat_dvd_left
theorem prIn_psOf {M : List Part} {m : Nat} (hd : ∀ x ∈ M, x.1.natAbs ∣ m) (hm : ∀ E : Nat, (∀ x ∈ M, x.1.natAbs ∣ E) → m ∣ E) : prIn (m : Int) = (psOf M).map fun (p : Nat) => (p : Int) := by
  unfold prIn psOf
  rw [primes_all, List.filter_map]
  congr 1
  refine List.filter_congr fun p hp => ?_
  have pp := allP_prm.p p hp
  refine Bool.eq_iff_iff.mpr ?_
  rw [inR_iff]
  show decide ((m : Int) % (p : Int) = 0) = true ↔ _
  rw [decide_eq_true_iff, mod_abs, Int.natAbs_natCast]
  constructor
  · intro z
    obtain ⟨x, hx, y⟩ := rootsProd_pr pp (Nat.dvd_trans z (hm _ fun x hx => rootsProd_dvd x hx))
    exact ⟨x, hx, mod_abs.mpr y⟩
  · rintro ⟨x, hx, z⟩
    exact Nat.dvd_trans (mod_abs.mp z) (hd x hx)
theorem psOf_roots {M : List Part} (h : ∀ x ∈ M, x.1 ∈ kI allP) : ∀ x ∈ M, x.1 ∈ kI (psOf M) := fun x hx => by
  obtain ⟨u, hu, e⟩ := List.mem_map.mp (h x hx)
  refine List.mem_map.mpr ⟨u, keys_filter allP_prm.p allP_prm.nd u hu fun p hp z => inR_iff.mpr ⟨x, hx, ?_⟩, e⟩
  rw [mod_abs, ← e, Int.natAbs_natCast]
  exact z
theorem psOf_more {M : List Part} : ∀ r ∈ kI (psOf M), r ∈ kI allP := fun r hr => by
  obtain ⟨u, hu, e⟩ := List.mem_map.mp hr
  exact List.mem_map.mpr ⟨u, keys_more u hu, e⟩
theorem psOf_lt {M : List Part} {W R : Nat} (hW : ∀ x ∈ M, x.1.natAbs ∣ W) (W0 : 0 < W) (WR : W < 2 ^ R) : ∀ r ∈ kI (psOf M), r.natAbs < 2 ^ R := fun r hr => by
  obtain ⟨u, hu, rfl⟩ := List.mem_map.mp hr
  rw [Int.natAbs_natCast]
  refine Nat.lt_of_le_of_lt (Nat.le_of_dvd W0 (keys_dvd (fun y hy => ⟨(psOf_prm M).p y hy, ?_⟩) (psOf_prm M).nd u hu)) WR
  obtain ⟨x, hx, z⟩ := inR_iff.mp (List.mem_filter.mp hy).2
  exact Nat.dvd_trans (mod_abs.mp z) (hW x hx)
/-- the equation at all primes -/
theorem UpEq.all {M : List Part} {kA k0 : List Int} {g g0 : Int → Rat} {c b : Rat} (v : Cov g kA) (v0 : Cov g0 k0) (o : On (psOf M) g) (o0 : On (psOf M) g0) (h : UpEq (psOf M) g g0 c b) : UpEq allP g g0 c b := by
  have P := psOf_prm M
  have A := allP_prm
  have oA : On allP g := fun r hr => psOf_more r (o r hr)
  have o0A : On allP g0 := fun r hr => psOf_more r (o0 r hr)
  have one : ∀ {ps : List Nat}, Prm ps → On ps (fun r => if r = 1 then c * b else 0) := fun {ps} hP r hr => by
    have e : r = 1 := Classical.byContradiction fun z => hr (if_neg z)
    rw [e]
    refine List.mem_map.mpr ⟨1, ?_, rfl⟩
    clear hP hr
    induction ps with
    | nil => exact List.mem_singleton.mpr rfl
    | cons x ps ih => exact List.mem_append_left _ ih
  have f1 : ∀ {ps : List Nat}, Prm ps → letI := (QF.El (QF.cs ps)).ring; fI ps (fun r => if r = 1 then c * b else 0) = (QF.El (QF.cs ps)).ι c * (QF.El (QF.cs ps)).ι b := fun {ps} hP => by
    letI := (QF.El (QF.cs ps)).ring
    show fI ps _ = _
    rw [← (QF.El (QF.cs ps)).ιmul, ← fr_one hP.p]
    refine QF.fr_congr fun u _ => ?_
    show (if (u : Int) = 1 then c * b else 0) = _
    by_cases e : u = 1
    · rw [if_pos e, if_pos (by omega)]
    · rw [if_neg e, if_neg (by omega)]
  have eq : ∀ u, prodG kA k0 g g0 u = if u = 1 then c * b else 0 := by
    refine fI_inj (prod_on P v v0 o o0) (one P) ?_
    rw [fI_prod P v v0 o o0, f1 P]
    exact h
  unfold UpEq
  letI := (QF.El (QF.cs allP)).ring
  show fI allP g * fI allP g0 = _
  rw [← fI_prod A v v0 oA o0A, ← f1 A]
  exact fI_congr eq
end TC
namespace TC
set_option exponentiation.threshold 20000
open PySem PySem.Spec PyProof.Rows L2 TCA TCX
theorem cov_val {L : List Part} (h : TCR.Canon L) : Cov (TCR.val L) (L.map (·.1)) := by
  refine ⟨List.pairwise_map.mpr (h.srt.imp fun {a b} z e => by have : a.1 < b.1 := z; omega), fun r hr => Classical.byContradiction fun z => hr (TCR.val_not fun x hx e => z (List.mem_map.mpr ⟨x, hx, e⟩))⟩
theorem on_val {L : List Part} {ps : List Nat} (h : ∀ x ∈ L, x.1 ∈ kI ps) : On ps (TCR.val L) := fun r hr => Classical.byContradiction fun z => hr (TCR.val_not fun x hx e => z (e ▸ h x hx))
theorem qv_tops {L : List Part} {c : Nat} (h : TCR.Canon L) (c0 : 0 < c) (hd : ∀ x ∈ L, x.2.den ∣ c) (r : Int) : qv (topsOf L c) r = ((c : Int) : Rat) * TCR.val L r := by
  have z := topsOf_div c0 r (den_val hd h r)
  have cz : ((c : Int) : Rat) ≠ 0 := fun e => by
    have := Rat.intCast_inj.mp (e.trans (show (0 : Rat) = ((0 : Int) : Rat) from rfl))
    omega
  rw [← z, Rat.divInt_eq_div]
  unfold qv
  grind
theorem den_abs {t b : Int} (h : b ≠ 0) : (Rat.divInt t b).den ∣ b.natAbs := by
  rcases Int.natAbs_eq b with e | e
  · rw [e, Int.natAbs_natCast]
    exact den_divInt (by omega)
  · have e2 : Rat.divInt t b = Rat.divInt (-t) ((b.natAbs : Nat) : Int) := by
      rw [Rat.divInt_eq_divInt_iff h (by omega)]
      rw [Int.neg_mul, ← Int.mul_neg]
      congr 1
      omega
    rw [e2]
    exact den_divInt (by omega)
theorem divInt_back {t b : Int} (h : b ≠ 0) : ((b : Int) : Rat) * Rat.divInt t b = ((t : Int) : Rat) := by
  have cz : ((b : Int) : Rat) ≠ 0 := fun e => h (Rat.intCast_inj.mp (e.trans (show (0 : Rat) = ((0 : Int) : Rat) from rfl)))
  rw [Rat.divInt_eq_div]
  grind
section
variable {P : Program} {w : World} {K : PySem.W.Frag} {mg : Str → Option Value} {base : Heap} {f : Addr} {fd : FuncData} {C fI fQ CB CW : Addr}
/-! ### over -/
/-- a divisor's roots: of the primes below 1000, all in W, which is below 2 to the R -/
structure Rts (M : List Part) (W R : Nat) : Prop where
  k : ∀ x ∈ M, x.1 ∈ kI allP
  d : ∀ x ∈ M, x.1.natAbs ∣ W
  W0 : 0 < W
  WR : W < 2 ^ R
  R0 : 0 < R
  R1 : R ≤ 1000
def spOver (C : Addr) : Sp := fun vs H Q _ => ∃ (x y : Addr) (L M : List Part), vs = [.ref x, .ref y] ∧ NumAt C H x L ∧ NumAt C H y M ∧ (∃ (W R D1 A1 B1 R1 D2 A2 B2 : Nat), M ≠ [] ∧ Rts M W R ∧ (psOf M).length ≤ 6 ∧ Fit D1 A1 R1 L ∧ Fit D2 A2 R M ∧ (∀ x ∈ L, x.1 ∈ kI allP) ∧ 0 < D1 ∧ D1 < 2 ^ B1 ∧ 0 < D2 ∧ D2 < 2 ^ B2 ∧ 0 < A1 ∧ A1 ≤ 20000 ∧ 0 < B1 ∧ 0 < A2 ∧ A2 ≤ 20000 ∧ 0 < B2 ∧ 0 < R1 ∧ R1 ≤ 2000 ∧ 64 * (A2 + B2 + R + 13) + B1 ≤ 8000 ∧ L.length ≤ 70 ∧ M.length ≤ 1000 ∧
    ∀ z N D H', Same H H' → H z = none → NumAt C H' z N → Fit D (A1 + B1 + 64 * (A2 + B2 + R + 13) + R1 + 13) (R1 + R) N → 0 < D → D < 2 ^ (B1 + 64 * (A2 + B2 + R + 13)) → (∀ x ∈ N, x.1 ∈ kI allP) → N.length ≤ L.length * 64 → (∀ u, prodG (N.map (·.1)) (M.map (·.1)) (TCR.val N) (TCR.val M) u = TCR.val L u) → Q (.ref z) H')
abbrev nOver : List Str := ["one", "other", "primes", "tops", "bottom", "others", "below"]
theorem scOver : FnScope nOver ["one", "other"] (defScope sOver) := ⟨rfl, rfl, rfl, by decide +kernel, rfl, by decide +kernel, by decide +kernel⟩
theorem ok_over {fN fO fP fW fU fR : Addr} {fdN fdO fdP fdW fdU fdR : FuncData} {tH : Tok} (F : FnP K "over" sOver f fd) (T : TxtN K mg C fI fQ) (glen : mg "len" = none) (gH : mg "MOST_PRIMES" = some (.int 6 tH))
    (GN : FnOk P w K mg base CX0 1 fN fdN ["thing"] (spNeed C)) (bN : L2.Binds K fdN ["thing"] []) (kN : PySem.W.keepIn K (.ref fN) = true) (gN : mg "need_exact" = some (.ref fN))
    (GPR : FnOk P w K mg base CX0 2 fR fdR ["parts"] spPrimesRoots) (bPR : L2.Binds K fdR ["parts"] []) (kPR : PySem.W.keepIn K (.ref fR) = true) (gPR : mg "primes_of_roots" = some (.ref fR))
    (GOB : FnOk P w K mg base CX0 2 fO fdO ["parts"] spOneB) (bOB : L2.Binds K fdO ["parts"] []) (kOB : PySem.W.keepIn K (.ref fO) = true) (gOB : mg "on_one_bottom" = some (.ref fO))
    (GUD : FnOk P w K mg base CX0 3 fU fdU ["parts", "primes"] spUpside) (bUD : L2.Binds K fdU ["parts", "primes"] []) (kUD : PySem.W.keepIn K (.ref fU) = true) (gUD : mg "upside_down" = some (.ref fU))
    (GPd : FnOk P w K mg base CX0 2 fP fdP ["tops", "others"] spProducts) (bPd : L2.Binds K fdP ["tops", "others"] []) (kPd : PySem.W.keepIn K (.ref fP) = true) (gPd : mg "products" = some (.ref fP))
    (GLo : FnOk P w K mg base CX0 3 fW fdW ["tops", "bottom"] (spLowered C)) (bLo : L2.Binds K fdW ["tops", "bottom"] []) (kLo : PySem.W.keepIn K (.ref fW) = true) (gLo : mg "lowered" = some (.ref fW)) :
    FnOk P w K mg base CX0 4 f fd ["one", "other"] (spOver C) := by
  refine F.ok scOver (fun vs H Q E h => ?_) (fun cdv Ar outer s H vs Q E hr h => ?_)
  · obtain ⟨_, _, _, _, rfl, _⟩ := h
    rfl
  obtain ⟨x, y, L, M, rfl, hx, hy, h⟩ := h
  have hu := hr.units
  have hr1 := hr.mono (j := 1) (by decide)
  have hr2 := hr.mono (j := 2) (by decide)
  have hr3 := hr.mono (j := 3) (by decide)
  refine ⟨_, PSs.nox (pss_cons (ps_expr (pe_call GN hr1 (by rfl) gN kN bN .nil pass0 (pa_cons (pv 0) pa_nil)))
      (pss_cons (ps_expr (pe_call GN hr1 (by rfl) gN kN bN .nil pass0 (pa_cons (pv 1) pa_nil)))
      (pss_cons (ps_if (pt_cmpR (op_eqD hu) (pe_fld (pv 1) rfl) (pe_tup pa_nil) (nomark _)) pss_never pss_nil)
      (C8.pss_cut (ps_set (i := 2) scOver.nd rfl (.inl rfl) (pe_call GPR hr2 (by rfl) gPR kPR bPR .nil pass0 (pa_cons (pe_fld (pv 1) rfl) pa_nil)))
      (pss_cons (ps_if (pt_cmpR op_gt (pe_callB call_len_seq (by rfl) glen PySem.boot_len (pa_cons (pv 2) pa_nil)) (pe_glob (v := .int 6) (by rfl) gH ⟨_, rfl⟩) (nomark _)) pss_never pss_nil)
      (C8.pss_cut (ps_asg (pe_call GOB hr2 (by rfl) gOB kOB bOB .nil pass0 (pa_cons (pe_fld (pv 0) rfl) pa_nil)) (pg_tup rfl (pgs_cons (pg_name (i := 3) scOver.nd rfl (.inl rfl)) (pgs_cons (pg_name (i := 4) scOver.nd rfl (.inl rfl)) pgs_nil))))
      (C8.pss_cut (ps_asg (pe_call GUD hr3 (by rfl) gUD kUD bUD .nil pass0 (pa_cons (pe_fld (pv 1) rfl) (pa_cons (pv 2) pa_nil))) (pg_tup rfl (pgs_cons (pg_name (i := 5) scOver.nd rfl (.inl rfl)) (pgs_cons (pg_name (i := 6) scOver.nd rfl (.inl rfl)) pgs_nil))))
      (pss_one (ps_ret (pe_call GLo hr3 (by rfl) gLo kLo bLo .nil pass0 (pa_cons (pe_call GPd hr2 (by rfl) gPd kPd bPd .nil pass0 (pa_cons (pv 3) (pa_cons (pv 5) pa_nil))) (pa_cons (pe_op op_mulW (pv 4) (pv 6)) pa_nil)))))))))))), ?_⟩
  obtain ⟨dx, p1, hx1, hp1⟩ := id hx
  obtain ⟨dy, p2, hy1, hp2⟩ := id hy
  refine ⟨_, rfl, x, L, rfl, hx, ?_⟩
  refine ⟨_, rfl, y, M, rfl, hy, ?_⟩
  refine ⟨_, rfl, y, C, dy, _, _, rfl, hy1, T.cl, T.nP, rfl, by show 0 ≤ sizeLine; decide, fun t ht => ?_⟩
  have s0 := same_upd (o := .tup []) ht
  refine ⟨toD M, .tuple [], (hp2.same s0).dp, .tup (SqT.of upd_same) .nil, toD_shaped M, rfl, decide (M = []), congrArg V.bl (toD_eqv M []), ?_⟩
  obtain ⟨W', R', D1, A1, B1, R1, D2, A2, B2, M0, RT', few, fL, fM, kL, D10, z1, D20, z2, A10, A1b, B10, A20, A2b, B20, R10, R1b, bd, l1, l2, q⟩ := h
  rw [decide_eq_false M0]
  refine iteF ?_
  have RT := RT'
  have pos : ∀ z ∈ M, 0 < z.1 := fun z hz => kI_pos allP_prm _ (RT.k z hz)
  refine ⟨fun σ H1 => ∃ l : Addr, σ = [some (.ref x), some (.ref y), some (.ref l), none, none, none, none] ∧ Same H H1 ∧ H1 l = some (.lst (((psOf M).map fun (z : Nat) => (z : Int)).map V.int)), ?_, fun σ H1 h1 => ?_⟩
  · refine ⟨_, rfl, y, C, dy, _, _, rfl, s0 _ _ hy1, T.cl, T.nP, rfl, p2, M, W', R', rfl, hp2.same s0, fun z hz => ⟨pos z hz, RT.d z hz⟩, RT.W0, RT.WR, RT.R0, by have := RT.R1; omega, fun l m H' s' hl m0 md mm hl2 => ?_⟩
    rw [prIn_psOf md mm] at hl2
    exact ⟨l, rfl, s0.trans s', hl2⟩
  obtain ⟨l, rfl, s1, hl⟩ := h1
  refine ⟨_, rfl, l, _, rfl, .inl (SqL.of hl), (((((psOf M).map fun (z : Nat) => (z : Int)).map V.int).length : Nat) : Int), 6, rfl, rfl, _, rfl, ?_⟩
  rw [List.length_map, List.length_map]
  refine iteD0 (show ¬ ((psOf M).length : Int) > 6 by omega) ?_
  have hx2 := s1 _ _ hx1
  refine ⟨fun σ H2 => ∃ (d1 : Addr) (c1 : Nat), σ = [some (.ref x), some (.ref y), some (.ref l), some (.ref d1), some (.int (c1 : Int)), none, none] ∧ Same H1 H2 ∧ H1 d1 = none ∧ IntD H2 d1 (L.map (·.1)) (topsOf L c1) ∧ 0 < c1 ∧ c1 ∣ D1 ∧ (∀ x ∈ L, x.2.den ∣ c1), ?_, fun σ H2 h2 => ?_⟩
  · refine ⟨_, rfl, x, C, dx, _, _, rfl, hx2, T.cl, T.nP, rfl, p1, L, D1, A1, B1, rfl, hp1.same s1, fL.can, fL.den, D10, z1, B10, by omega, fL.num, A10, by omega, by omega, fun v1 d1 c1 H2 s2 hv1 ev1 hd1 i1 c10 c1D c1d => ?_⟩
    exact ⟨v1, _, rfl, SqT.of ev1, rfl, _, _, rfl, _, _, rfl, rfl, d1, c1, rfl, s2, hd1, i1, c10, c1D, c1d⟩
  obtain ⟨d1, c1, rfl, s2, hd1, i1, c10, c1D, c1d⟩ := h2
  have P := psOf_prm M
  have kR := psOf_lt RT'.d RT'.W0 RT'.WR
  refine ⟨fun σ H3 => ∃ (d2 : Addr) (ks : List Int) (t : Int → Int) (b : Int) (c : Nat), σ = [some (.ref x), some (.ref y), some (.ref l), some (.ref d1), some (.int (c1 : Int)), some (.ref d2), some (.int b)] ∧ Same H2 H3 ∧ H2 d2 = none ∧ IntD H3 d2 ks t ∧ (∀ r ∈ ks, r ∈ kI (psOf M)) ∧ ks.length ≤ 64 ∧ b ≠ 0 ∧ b.natAbs < 2 ^ (64 * (A2 + B2 + R' + 13)) ∧ (∀ r, (t r).natAbs < 2 ^ (64 * (A2 + B2 + R' + 13))) ∧ 0 < c ∧ (∀ x ∈ M, x.2.den ∣ c) ∧ UpEq (psOf M) (qv t) (qv (topsOf M c)) ((c : Int) : Rat) ((b : Int) : Rat), ?_, fun σ H3 h3 => ?_⟩
  · refine ⟨_, rfl, y, C, dy, _, _, rfl, s2 _ _ (s1 _ _ hy1), T.cl, T.nP, rfl, _, rfl, p2, l, M, psOf M, D2, A2, B2, R', rfl, (hp2.same s1).same s2, fM.can, fM.den, D20, z2, B20, by omega, fM.num, A20, by omega, by omega, M0, P, few, psOf_roots RT'.k, kR, RT'.R0, RT'.R1, by omega, s2 _ _ hl, fun v d2 ks t b c H3 s3 hv ev hd2 i2 sub lk b0 bB tB c0 cd eq => ?_⟩
    exact ⟨v, _, rfl, SqT.of ev, rfl, _, _, rfl, _, _, rfl, rfl, d2, ks, t, b, c, rfl, s3, hd2, i2, sub, lk, b0, bB, tB, c0, cd, eq⟩
  obtain ⟨d2, ks, t, b, c, rfl, s3, hd2, i2, sub, lk, b0, bB, tB, c0, cd, eq⟩ := h3
  have c1B : c1 < 2 ^ B1 := Nat.lt_of_le_of_lt (Nat.le_of_dvd D10 c1D) z1
  have ndd : d1 ≠ d2 := by
    obtain ⟨_, z, _⟩ := i1
    exact ne_of_none z hd2
  have kp : ∀ r ∈ L.map (·.1), 0 < r ∧ r.natAbs < 2 ^ R1 := fun r hr => by
    obtain ⟨z, hz, e⟩ := List.mem_map.mp hr
    rw [← e]
    exact fL.pos z hz
  have kq : ∀ r ∈ ks, 0 < r ∧ r.natAbs < 2 ^ R' := fun r hr => ⟨kI_pos P r (sub r hr), kR r (sub r hr)⟩
  have tl1 := tops_lt c1B fL.val
  have ll : L.length * ks.length ≤ 70 * 64 := Nat.mul_le_mul l1 lk
  have ll2 : L.length * ks.length ≤ L.length * 64 := Nat.mul_le_mul_left _ lk
  have up : ∀ {r : Int} {E : Nat}, r.natAbs < 2 ^ E → r.natAbs < 2 ^ (R1 + R' + E) := fun h => Nat.lt_of_lt_of_le h (Nat.pow_le_pow_right (by decide) (by omega))
  have w1 : ∀ r ∈ L.map (·.1), 0 < r ∧ r.natAbs < 2 ^ (R1 + R') := fun r hr => ⟨(kp r hr).1, Nat.lt_of_lt_of_le (kp r hr).2 (Nat.pow_le_pow_right (by decide) (by omega))⟩
  have w2 : ∀ r ∈ ks, 0 < r ∧ r.natAbs < 2 ^ (R1 + R') := fun r hr => ⟨(kq r hr).1, Nat.lt_of_lt_of_le (kq r hr).2 (Nat.pow_le_pow_right (by decide) (by omega))⟩
  have R1' := RT'.R1
  refine ⟨_, rfl, _, rfl, d1, d2, L.map (·.1), ks, _, t, A1 + B1, 64 * (A2 + B2 + R' + 13), R1 + R', rfl, ndd, i1.same s3, i2, w1, w2, tl1, tB, by omega, by omega, by omega, by omega, by omega, by rw [List.length_map]; omega, fun d kz H4 s4 hd i3 lz subz => ?_⟩
  rw [List.length_map] at lz
  have n1 : ((c1 : Nat) : Int).natAbs < 2 ^ B1 := by rw [Int.natAbs_natCast]; exact c1B
  have cb0 : (c1 : Int) * b ≠ 0 := Int.mul_ne_zero (by omega) b0
  refine ⟨_, rfl, _, rfl, (c1 : Int), b, rfl, rfl, cmulw n1 bB B10 (by omega) (by omega), ?_⟩
  refine ⟨d, kz, _, _, B1 + 64 * (A2 + B2 + R' + 13), rfl, i3, cb0, wide_lt n1 bB, by omega, by omega, by omega, fun z N H5 s5 hz hN cN vN lN => ?_⟩
  have SA := ((s1.trans s2).trans s3).trans s4
  have inN : ∀ e ∈ N, e.1 ∈ kz := fun e he => Classical.byContradiction fun m => by
    obtain ⟨_, _, _, _, _, out⟩ := i3
    have := cN.nz e he
    rw [← cN.mem he, vN e.1, out e.1 m, Rat.zero_divInt] at this
    exact this rfl
  have kA : ∀ u ∈ kz, u ∈ kI allP := keys_prod allP_prm (fun r hr => by
    obtain ⟨x, hx, rfl⟩ := List.mem_map.mp hr
    exact kL x hx) (fun r hr => psOf_more r (sub r hr)) subz
  have bt : ∀ r ∈ L.map (·.1), ∀ s ∈ ks, (topsOf L c1 r * t s * gR r s).natAbs ≤ 2 ^ (A1 + B1 + 64 * (A2 + B2 + R' + 13) + R1) := fun r hr s hs => by
    refine Nat.le_of_lt (wide_lt (wide_lt (tl1 r) (tB s)) ?_)
    unfold gR
    rw [Int.natAbs_natCast]
    obtain ⟨r0, rR⟩ := kp r hr
    exact Nat.lt_of_le_of_lt (Nat.le_of_dvd (by omega) (Int.gcd_dvd_natAbs_left r s)) rR
  have nb : ∀ u, (prodI (L.map (·.1)) ks (topsOf L c1) t u).natAbs < 2 ^ (A1 + B1 + 64 * (A2 + B2 + R' + 13) + R1 + 13) := fun u => by
    refine Nat.lt_of_le_of_lt (prodI_le bt u) ?_
    rw [List.length_map, Nat.pow_add 2 _ 13, Nat.mul_comm]
    exact Nat.mul_lt_mul_of_pos_left (show L.length * ks.length < 2 ^ 13 by omega) (Nat.pow_pos (by decide))
  have c1Q : ((c1 : Int) : Rat) ≠ 0 := fun e => by
    have := Rat.intCast_inj.mp (e.trans (show (0 : Rat) = ((0 : Int) : Rat) from rfl))
    omega
  have cQ : ((c : Int) : Rat) ≠ 0 := fun e => by
    have := Rat.intCast_inj.mp (e.trans (show (0 : Rat) = ((0 : Int) : Rat) from rfl))
    omega
  have bQ : ((b : Int) : Rat) ≠ 0 := fun e => b0 (Rat.intCast_inj.mp (e.trans (show (0 : Rat) = ((0 : Int) : Rat) from rfl)))
  have cM0 := cov_of (ks := M.map (·.1)) (t := topsOf M c) (cov_val fM.can).1 (fun r hr => by
    unfold topsOf
    rw [TCR.val_not fun x hx e => hr (List.mem_map.mpr ⟨x, hx, e⟩)]
    exact Int.zero_mul _)
  have oM0 : On (psOf M) (qv (topsOf M c)) := on_of (ks := M.map (·.1)) (fun r hr => by
    obtain ⟨x, hx, rfl⟩ := List.mem_map.mp hr
    exact psOf_roots RT'.k x hx) (fun r hr => by
    unfold topsOf
    rw [TCR.val_not fun x hx e => hr (List.mem_map.mpr ⟨x, hx, e⟩)]
    exact Int.zero_mul _)
  obtain ⟨_, _, _, _, nd2, out2⟩ := id i2
  obtain ⟨_, _, _, _, nd1, out1⟩ := id i1
  have eqA := UpEq.all (cov_of nd2 out2) cM0 (on_of sub out2) oM0 eq
  have fin := quot_right allP_prm (k1 := L.map (·.1)) (kA := ks) (kq := N.map (·.1)) (k0 := M.map (·.1)) (g1 := qv (topsOf L c1)) (gA := qv t) (g0 := qv (topsOf M c)) (gq := TCR.val N) (go := TCR.val M) (gu := TCR.val L) bQ cQ c1Q (cov_of nd1 out1) (cov_of nd2 out2) (cov_val cN) (cov_val fM.can)
    (on_of (fun r hr => by
      obtain ⟨x, hx, rfl⟩ := List.mem_map.mp hr
      exact kL x hx) out1) (on_of (fun r hr => psOf_more r (sub r hr)) out2) (on_val fun e he => kA _ (inN e he)) (on_val RT'.k) (on_val kL) (qv_tops fM.can c0 cd) (qv_tops fL.can c10 c1d) (fun r => by
      rw [vN r, ← prodI_G, ← Rat.intCast_mul, divInt_back cb0]
      rfl) eqA
  refine q z N (c1 * b.natAbs) H5 (SA.trans s5) (SA.free hz) hN ⟨cN, fun e he => ?_, fun e he => ?_, fun e he => ?_⟩ (Nat.mul_pos c10 (by omega)) ?_ (fun e he => kA _ (inN e he)) (by omega) fin
  · rw [← cN.mem he, vN e.1]
    have := den_abs (t := prodI (L.map (·.1)) ks (topsOf L c1) t e.1) cb0
    rwa [Int.natAbs_mul, Int.natAbs_natCast] at this
  · rw [← cN.mem he, vN e.1]
    have lo := (TCM.low_abs (prodI (L.map (·.1)) ks (topsOf L c1) t e.1) _ cb0).1
    rw [TCR.low_rat _ _ cb0] at lo
    exact Nat.lt_of_le_of_lt lo (nb e.1)
  · obtain ⟨r, hr, s, hs, e2⟩ := subz e.1 (inN e he)
    rw [e2]
    have gp : 0 < Int.gcd r s := Int.gcd_pos_iff.mpr (.inl (by have := (kp r hr).1; omega))
    refine ⟨(mulR_pos (w1 r hr).1 (w2 s hs).1 (w1 r hr).2 (w2 s hs).2).1, ?_⟩
    obtain ⟨r0, rR⟩ := kp r hr
    obtain ⟨q0, qR⟩ := kq s hs
    unfold mulR
    refine wide_lt ?_ ?_
    · have e3 : r = ((r.natAbs : Nat) : Int) := by omega
      rw [e3]
      unfold gR
      rw [fdiv_nat, Int.natAbs_natCast]
      exact Nat.lt_of_le_of_lt (Nat.div_le_self ..) rR
    · have e3 : s = ((s.natAbs : Nat) : Int) := by omega
      rw [e3]
      unfold gR
      rw [fdiv_nat, Int.natAbs_natCast]
      exact Nat.lt_of_le_of_lt (Nat.div_le_self ..) qR
  · have := wide_lt n1 bB
    rwa [Int.natAbs_mul, Int.natAbs_natCast] at this
end
end TC
namespace TC
open PySem PySem.Spec PyProof.Rows L2 TCA TCX
/-- what squares_out tells: n is o squared times i times r, i without a square in it -/
structure Sq (n o i r : Int) : Prop where
  o0 : 0 < o
  i0 : 0 < i
  r0 : 0 < r
  eq : n = o * o * i * r
  si : SqF i.toNat
  rest : r = 1 ∨ ∀ p ∈ TCM.primes, ¬ p ∣ r
structure SqS (n o i r : Int) (j : Nat) : Prop where
  o0 : 0 < o
  i0 : 0 < i
  r0 : 0 < r
  eq : n = o * o * i * r
  si : SqF i.toNat
  iP : ∀ m p, TCM.primes[m]? = some p → j ≤ m → ¬ p ∣ i
  rest : ∀ p ∈ TCM.primes.take j, ¬ p ∣ r
theorem prime_p : ∀ p ∈ TCM.primes, IsP p.toNat := by
  have h : TCM.primes.all (fun p => decide (2 ≤ p) && ((List.range p.toNat).all fun d => d ≤ 1 || !(p.toNat % d == 0))) = true := by decide +kernel
  intro p hp
  have z := List.all_eq_true.mp h p hp
  simp only [Bool.and_eq_true, decide_eq_true_eq] at z
  refine ⟨by omega, fun d hd => ?_⟩
  have d0 : d ≤ p.toNat := Nat.le_of_dvd (by omega) hd
  by_cases e : d = p.toNat
  · exact .inr e
  · have y := List.all_eq_true.mp z.2 d (List.mem_range.mpr (by omega))
    simp only [Bool.or_eq_true, decide_eq_true_eq, Bool.not_eq_true', beq_eq_false_iff_ne] at y
    rcases y with y | y
    · have : d ≠ 0 := fun w => by
        rw [w] at hd
        have := Nat.eq_zero_of_zero_dvd hd
        omega
      exact .inl (by omega)
    · exact absurd (Nat.mod_eq_zero_of_dvd hd) y
theorem primes_nd : TCM.primes.Nodup := by decide +kernel
theorem prime_at {m m' : Nat} {p : Int} (h : TCM.primes[m]? = some p) (h' : TCM.primes[m']? = some p) : m = m' := by
  obtain ⟨l, e⟩ := List.getElem?_eq_some_iff.mp h
  obtain ⟨l', e'⟩ := List.getElem?_eq_some_iff.mp h'
  exact (List.getElem_inj primes_nd).mp (e.trans e'.symm)
theorem SqS.turn {n o i r p : Int} {j : Nat} (h : SqS n o i r j) (p2 : 2 ≤ p) (hz : r % (p * p) = 0) : SqS n (o * p) i (r / (p * p)) j ∧ (r / (p * p)).toNat < r.toNat := by
  obtain ⟨a, b, c⟩ := TCM.sq_div h.r0 (TCM.pp4 p2) hz
  have e : p * p * (r / (p * p)) = r := by
    have := Int.mul_ediv_add_emod r (p * p)
    omega
  refine ⟨⟨Int.mul_pos h.o0 (by omega), h.i0, a, ?_, h.si, h.iP, fun q hq hd => h.rest q hq (Int.dvd_trans hd ⟨p * p, ?_⟩)⟩, by omega⟩
  · have := h.eq
    generalize r / (p * p) = m at e ⊢
    subst e
    rw [this]
    grind
  · rw [Int.mul_comm]
    exact e.symm
theorem SqS.last {n o i r p : Int} {j : Nat} (h : SqS n o i r j) (hp : TCM.primes[j]? = some p) (p2 : 2 ≤ p) (hz : ¬ r % (p * p) = 0) (hz2 : r % p = 0) : SqS n o (i * p) (r / p) (j + 1) := by
  have e : p * (r / p) = r := by
    have := Int.mul_ediv_add_emod r p
    omega
  have l1 : 0 < r / p := by
    rcases Int.lt_or_le 0 (r / p) with z | z
    · exact z
    · have := Int.mul_le_mul_of_nonneg_left z (show 0 ≤ p by omega)
      rw [Int.mul_zero] at this
      have := h.r0
      omega
  have hpm := List.mem_of_getElem? hp
  have i0 := h.i0
  have ei : (i * p).toNat = p.toNat * i.toNat := by
    rw [Int.mul_comm, Int.toNat_mul (by omega) (by omega)]
  have tk : TCM.primes.take (j + 1) = TCM.primes.take j ++ [p] := by
    rw [List.take_add_one, hp]
    rfl
  refine ⟨h.o0, Int.mul_pos h.i0 (by omega), l1, ?_, ?_, fun m q hq hm hd => ?_, fun q hq hd => ?_⟩
  · have := h.eq
    generalize r / p = m at e ⊢
    subst e
    rw [this]
    grind
  · rw [ei]
    refine SqF.mul (prime_p p hpm) h.si fun hd => h.iP j p hp (Nat.le_refl _) ?_
    have := Int.natCast_dvd_natCast.mpr hd
    rwa [Int.toNat_of_nonneg (by omega), Int.toNat_of_nonneg (by omega)] at this
  · have qP := prime_p q (List.mem_of_getElem? hq)
    have q2 := (primes_ok q (List.mem_of_getElem? hq)).1
    have hd' : q.toNat ∣ i.toNat * p.toNat := by
      rw [Nat.mul_comm, ← ei]
      refine Int.natCast_dvd_natCast.mp ?_
      rw [Int.toNat_of_nonneg (by omega), Int.toNat_of_nonneg (Int.mul_nonneg (by omega) (by omega))]
      exact hd
    rcases qP.dvd_mul hd' with z | z
    · refine h.iP m q hq (by omega) ?_
      have := Int.natCast_dvd_natCast.mpr z
      rwa [Int.toNat_of_nonneg (by omega), Int.toNat_of_nonneg (by omega)] at this
    · have z2 := (prime_p p hpm).2 _ z
      have z3 := qP.1
      have e2 : q = p := by rcases z2 with z2 | z2 <;> omega
      rw [e2] at hq
      have := prime_at hq hp
      omega
  · rw [tk] at hq
    rcases List.mem_append.mp hq with hq | hq
    · exact h.rest q hq (Int.dvd_trans hd ⟨p, by rw [Int.mul_comm]; exact e.symm⟩)
    · rw [List.mem_singleton.mp hq] at hd
      obtain ⟨k, hk⟩ := hd
      refine hz (Int.emod_eq_zero_of_dvd ⟨k, ?_⟩)
      rw [Int.mul_assoc, ← hk]
      exact e.symm
theorem SqS.none {n o i r p : Int} {j : Nat} (h : SqS n o i r j) (hp : TCM.primes[j]? = some p) (hz2 : ¬ r % p = 0) : SqS n o i r (j + 1) :=
  ⟨h.o0, h.i0, h.r0, h.eq, h.si, fun m q hq hm => h.iP m q hq (by omega), fun q hq hd => by
    rw [List.take_add_one, hp] at hq
    rcases List.mem_append.mp hq with hq | hq
    · exact h.rest q hq hd
    · rw [List.mem_singleton.mp hq] at hd
      exact hz2 (Int.emod_eq_zero_of_dvd hd)⟩
section
variable {P : Program} {w : World} {K : PySem.W.Frag} {mg : Str → Option Value} {base : Heap} {f : Addr} {fd : FuncData}
/-! ### squares_out of any number -/
def spSqBig : Sp := fun vs H Q _ => ∃ n : Int, vs = [.int n] ∧ 0 < n ∧ ∀ p o i r H', Same H H' → H p = none → Sq n o i r → H' p = some (.tup [.int o, .int i, .int r]) → Q (.ref p) H'
theorem ok_sqBig {aP : Addr} (F : FnP K "squares_out" sSquares f fd) (gP : mg "PRIMES" = some (.ref aP)) (hT : ∀ H, SqT K H aP (TCM.primes.map V.int)) : FnOk P w K mg base CX0 1 f fd ["number"] spSqBig := by
  refine F.ok scSquares (fun vs H Q E h => ?_) (fun cdv A outer s H vs Q E hr h => ?_)
  · obtain ⟨a, rfl, _⟩ := h
    rfl
  · obtain ⟨n, rfl, h0, q⟩ := h
    refine ⟨_, PSs.nox (pss_cons (ps_if (pt_cmpR op_eq (pv 0) pe_int (nomark _)) (pss_one (ps_ret (pe_tup (pa_cons pe_int (pa_cons pe_int (pa_cons pe_int pa_nil)))))) pss_nil)
      (pss_cons (ps_asg (pe_tup (pa_cons pe_int (pa_cons pe_int pa_nil))) (pg_tup rfl (pgs_cons (pg_name (i := 1) scSquares.nd rfl (.inl rfl)) (pgs_cons (pg_name (i := 2) scSquares.nd rfl (.inl rfl)) pgs_nil))))
      (pss_cons (ps_for PassesOwn.never rfl (pi_tup (pe_glob (v := .ref aP) (by rfl) gP rfl)) (pg_name (i := 3) scSquares.nd rfl (.inl rfl))
        (pss_cons (ps_if (pt_cmpR op_eq (pv 0) pe_int (nomark _)) (pss_one ps_break) pss_nil)
        (pss_cons (ps_while PassesOwn.never (pt_cmpR op_eq (pe_op op_mod (pv 0) (pe_op op_mul (pv 3) (pv 3))) pe_int (nomark _))
          (pss_cons (ps_aug (i := 0) scSquares.nd rfl (.inl rfl) (pe_op op_mul (pv 3) (pv 3)) iop_fdiv) (pss_one (ps_aug (i := 1) scSquares.nd rfl (.inl rfl) (pv 3) iop_mul))))
        (pss_one (ps_if (pt_cmpR op_eq (pe_op op_mod (pv 0) (pv 3)) pe_int (nomark _))
          (pss_cons (ps_aug (i := 0) scSquares.nd rfl (.inl rfl) (pv 3) iop_fdiv) (pss_one (ps_aug (i := 2) scSquares.nd rfl (.inl rfl) (pv 3) iop_mul))) pss_nil)))))
      (pss_one (ps_ret (pe_tup (pa_cons (pv 1) (pa_cons (pv 2) (pa_cons (pv 0) pa_nil))))))))), ?_⟩
    refine ⟨_, rfl, rfl, _, rfl, ?_⟩
    refine iteD0 (ine (by omega)) ?_
    refine ⟨by show 2 ≤ sizeLine; decide, fun c hc => ?_⟩
    refine ⟨c, _, rfl, SqT.of upd_same, rfl, _, _, rfl, _, _, rfl, rfl, ?_⟩
    have sm1 : Same H (upd H c (.tup [.int 1, .int 1])) := same_upd hc
    replace q : ∀ p o i r, (upd H c (.tup [.int 1, .int 1])) p = none → Sq n o i r → Q (.ref p) (upd (upd H c (.tup [.int 1, .int 1])) p (.tup [.int o, .int i, .int r])) := fun p o i r hp hs => q p o i r _ (sm1.trans (same_upd hp)) (sm1.free hp) hs upd_same
    generalize upd H c (.tup [.int 1, .int 1]) = H at q ⊢
    refine ⟨aP, rfl, ⟨_, hT H⟩, for_tup (xs := TCM.primes.map V.int) (fun j σ H' => ∃ (n' o i : Int) (pr : Option V), σ = [some (.int n'), some (.int o), some (.int i), pr] ∧ H' = H ∧ SqS n o i n' j)
      ⟨n, 1, 1, none, rfl, rfl, ⟨by decide, by decide, h0, by omega, SqF.one, (fun m p hp _ hd => by have := (primes_ok p (List.mem_of_getElem? hp)).1; have := Int.le_of_dvd (by decide) hd; omega), (fun p hp => by cases hp)⟩⟩ (fun j σ H' _ hP => ?_) (fun j x σ H' hx hP => ?_) (fun σ H' hP => ?_)⟩
    · obtain ⟨_, _, _, _, _, rfl, _⟩ := hP
      exact hT _
    · obtain ⟨n', o, i, pr, rfl, rfl, ge⟩ := hP
      rw [List.getElem?_map] at hx
      obtain ⟨p, hp, rfl⟩ : ∃ p, TCM.primes[j]? = some p ∧ V.int p = x := by
        cases e : TCM.primes[j]? with
        | none =>
          rw [e] at hx
          cases hx
        | some p =>
          rw [e] at hx
          exact ⟨p, rfl, Option.some.inj hx⟩
      have hpm := List.mem_of_getElem? hp
      obtain ⟨p2, p9⟩ := primes_ok p hpm
      have htake : TCM.primes.take (j + 1) = TCM.primes.take j ++ [p] := by
        rw [List.take_add_one, hp]
        rfl
      obtain ⟨pp1, pp2⟩ := pp_le p2 p9
      have cd : CDiv n' (p * p) := ⟨by omega, by omega⟩
      refine ⟨_, rfl, rfl, _, rfl, ?_⟩
      by_cases hn1 : n' = 1
      · subst hn1
        refine iteD1 rfl ?_
        exact ⟨_, rfl, _, rfl, _, rfl, by show 3 ≤ sizeLine; decide, fun p hp => q p o i 1 hp ⟨ge.o0, ge.i0, by decide, ge.eq, ge.si, .inl rfl⟩⟩
      · refine iteD0 (ine hn1) ?_
        refine ⟨fun m σ H'' => ∃ (n2 o2 : Int), σ = [some (.int n2), some (.int o2), some (.int i), some (.int p)] ∧ H'' = H' ∧ SqS n o2 i n2 j ∧ n2.toNat = m,
          ⟨_, n', o, rfl, rfl, ge, rfl⟩, fun m σ H'' hW => ?_⟩
        obtain ⟨n2, o2, rfl, rfl, hw, hm⟩ := hW
        refine ⟨_, rfl, _, rfl, _, rfl, p, p, rfl, rfl, cmul_r (by omega) (by omega), n2, p * p, rfl, rfl, by show 0 < p * p; omega, rfl, _, rfl, ?_⟩
        by_cases hz : n2 % (p * p) = 0
        · refine iteD1 (congrArg V.int hz) ?_
          obtain ⟨hw2, hlt⟩ := hw.turn p2 hz
          refine ⟨fun σ' H3 => σ' = [some (.int (n2 / (p * p))), some (.int (o2 * p)), some (.int i), some (.int p)] ∧ H3 = H'', fun σ' H3 hN => ?_, ?_⟩
          · obtain ⟨rfl, rfl⟩ := hN
            exact ⟨_, hm ▸ hlt, _, _, rfl, rfl, hw2, rfl⟩
          · exact ⟨_, rfl, _, rfl, _, rfl, p, p, rfl, rfl, cmul_r (by omega) (by omega), n2, p * p, rfl, rfl, ⟨by omega, by omega⟩, _, rfl, _, rfl, o2, p, rfl, rfl, cmul_r (by omega) (by omega), rfl, rfl⟩
        · refine iteD0 (ine hz) ?_
          refine ⟨_, rfl, _, rfl, n2, p, rfl, rfl, by show 0 < p; omega, rfl, _, rfl, ?_⟩
          by_cases hz2 : n2 % p = 0
          · refine iteD1 (congrArg V.int hz2) ?_
            exact ⟨_, rfl, _, rfl, n2, p, rfl, rfl, ⟨by omega, by omega⟩, _, rfl, _, rfl, i, p, rfl, rfl, cmul_r (by omega) (by omega), n2 / p, o2, i * p, some (.int p), rfl, rfl, hw.last hp p2 hz hz2⟩
          · refine iteD0 (ine hz2) ?_
            exact ⟨n2, o2, i, some (.int p), rfl, rfl, hw.none hp hz2⟩
    · obtain ⟨n', o, i, pr, rfl, rfl, ge⟩ := hP
      rw [List.length_map] at ge
      have ge' := ge.rest
      rw [List.take_length] at ge'
      exact ⟨_, rfl, _, rfl, _, rfl, by show 3 ≤ sizeLine; decide, fun p hp => q p o i n' hp ⟨ge.o0, ge.i0, ge.r0, ge.eq, ge.si, .inr ge'⟩⟩
end
end TC
namespace TCX
/-! the sum of joined numbers: one step up -/
/-- 1 / n!, 0 below 0 -/
def inv (n : Int) : Rat := if n < 0 then 0 else (((factN n.toNat : Nat) : Int) : Rat)⁻¹
theorem inv_step (n : Int) : inv (n - 1) = (n : Rat) * inv n := by
  unfold inv
  by_cases h : n < 0
  · rw [if_pos h, if_pos (by omega), Rat.mul_zero]
  · rw [if_neg h]
    by_cases h0 : n = 0
    · subst h0
      rw [if_pos (by decide)]
      grind
    · rw [if_neg (by omega)]
      obtain ⟨m, rfl⟩ : ∃ m : Nat, n = (m : Int) + 1 := ⟨(n - 1).toNat, by omega⟩
      rw [show ((m : Int) + 1 - 1).toNat = m by omega, show ((m : Int) + 1).toNat = m + 1 by omega]
      have e : factN (m + 1) = (m + 1) * factN m := rfl
      have p := fact_pos m
      have q : (((factN m : Nat) : Int) : Rat) ≠ 0 := by
        intro z
        have z2 : ((factN m : Nat) : Int) = 0 := by exact_mod_cast z
        omega
      have q2 : (((m : Int) + 1 : Int) : Rat) ≠ 0 := by
        intro z
        have z2 : (m : Int) + 1 = 0 := by exact_mod_cast z
        omega
      rw [e]
      have e2 : ((((m + 1) * factN m : Nat) : Int) : Rat) = (((m : Int) + 1 : Int) : Rat) * (((factN m : Nat) : Int) : Rat) := by
        push_cast
        rfl
      rw [e2]
      generalize (((m : Int) + 1 : Int) : Rat) = x at *
      generalize (((factN m : Nat) : Int) : Rat) = y at *
      rw [Rat.inv_mul_rev]
      grind
def sgR (k : Int) : Rat := if k % 2 = 1 then -1 else 1
theorem sgR_succ (k : Int) : sgR (k + 1) = - sgR k := by
  unfold sgR
  by_cases h : k % 2 = 1
  · rw [if_pos h, if_neg (by omega)]
    grind
  · rw [if_neg h, if_pos (by omega)]
/-- one term -/
def tau (A B C D E k : Int) : Rat := sgR k * inv k * inv (A - k) * inv (B - k) * inv (C - k) * inv (D + k) * inv (E + k)
def gee (A B C D E k : Int) : Rat := sgR k * inv (k - 1) * inv (A - k) * inv (B + 1 - k) * inv (C - k) * inv (D + k - 1) * inv (E + k)
theorem tau_step (A B C D E k : Int) : ((B + 1 : Int) : Rat) * tau A (B + 1) C (D - 1) E k + ((E + A + 1 : Int) : Rat) * tau A B (C - 1) D (E + 1) k - ((C + D : Int) : Rat) * tau A B C D E k = gee A B C D E k - gee A B C D E (k + 1) := by
  unfold tau gee
  rw [sgR_succ, show k + 1 - 1 = k by omega, inv_step k, show A - (k + 1) = (A - k) - 1 by omega, inv_step (A - k), show B + 1 - (k + 1) = (B + 1 - k) - 1 by omega, show B - k = (B + 1 - k) - 1 by omega, inv_step (B + 1 - k), show C - (k + 1) = (C - k) - 1 by omega, show C - 1 - k = (C - k) - 1 by omega, inv_step (C - k), show D - 1 + k = (D + k) - 1 by omega, show D + (k + 1) - 1 = D + k by omega, inv_step (D + k), show E + 1 + k = E + k + 1 by omega, show E + (k + 1) = E + k + 1 by omega, show inv (E + k) = ((E + k + 1 : Int) : Rat) * inv (E + k + 1) from by rw [← inv_step, show E + k + 1 - 1 = E + k by omega]]
  generalize inv k = i0
  generalize inv (A - k) = iA
  generalize inv (B + 1 - k) = b1
  generalize inv (C - k) = c0
  generalize inv (D + k) = d0
  generalize inv (E + k + 1) = e1
  generalize sgR k = s
  push_cast
  generalize (A : Rat) = a'
  generalize (B : Rat) = b'
  generalize (C : Rat) = c'
  generalize (D : Rat) = d'
  generalize (E : Rat) = e'
  generalize (k : Rat) = k'
  grind
def sumR (f : Nat → Rat) : Nat → Rat
  | 0 => 0
  | n + 1 => sumR f n + f n
theorem tau_sum (A B C D E : Int) : ∀ n : Nat, ((B + 1 : Int) : Rat) * sumR (fun k => tau A (B + 1) C (D - 1) E k) n + ((E + A + 1 : Int) : Rat) * sumR (fun k => tau A B (C - 1) D (E + 1) k) n - ((C + D : Int) : Rat) * sumR (fun k => tau A B C D E k) n = gee A B C D E 0 - gee A B C D E n
  | 0 => by
    show _ * (0 : Rat) + _ * (0 : Rat) - _ * (0 : Rat) = gee A B C D E 0 - gee A B C D E ((0 : Nat) : Int)
    rw [show ((0 : Nat) : Int) = 0 from rfl]
    grind
  | n + 1 => by
    have h := tau_sum A B C D E n
    have t := tau_step A B C D E (n : Int)
    show _ * (sumR _ n + tau A (B + 1) C (D - 1) E n) + _ * (sumR _ n + tau A B (C - 1) D (E + 1) n) - _ * (sumR _ n + tau A B C D E n) = gee A B C D E 0 - gee A B C D E ((n : Int) + 1)
    grind
/-- the step up of the sums -/
theorem tau_up (A : Nat) (B C D E : Int) : ((C + D : Int) : Rat) * sumR (fun k => tau A B C D E k) (A + 1) = ((B + 1 : Int) : Rat) * sumR (fun k => tau A (B + 1) C (D - 1) E k) (A + 1) + ((E + A + 1 : Int) : Rat) * sumR (fun k => tau A B (C - 1) D (E + 1) k) (A + 1) := by
  have h := tau_sum A B C D E (A + 1)
  have i1 : inv (-1) = 0 := rfl
  have g0 : gee A B C D E 0 = 0 := by
    unfold gee
    rw [show (0 : Int) - 1 = -1 by rfl, i1]
    grind
  have g1 : gee A B C D E ((A + 1 : Nat) : Int) = 0 := by
    unfold gee
    rw [show (A : Int) - ((A + 1 : Nat) : Int) = -1 by omega, i1]
    grind
  rw [g0, g1] at h
  grind
end TCX
namespace TCX
theorem inv_nat {n : Int} (h : 0 ≤ n) : inv n = (((factN n.toNat : Nat) : Int) : Rat)⁻¹ := if_neg (by omega)
theorem inv_neg {n : Int} (h : n < 0) : inv n = 0 := if_pos h
theorem divInt_inv (x : Int) (n : Nat) : Rat.divInt x (n : Int) = (x : Rat) * (((n : Int) : Rat))⁻¹ := by
  rw [Rat.divInt_eq_div, Rat.div_def]
theorem sgR_nat (k : Nat) : sgR (k : Int) = ((sgK k : Int) : Rat) := by
  unfold sgR sgK
  by_cases h : k % 2 = 1
  · rw [if_pos h, if_pos (by omega)]
    rfl
  · rw [if_neg h, if_neg (by omega)]
    rfl
theorem tau_tm (A B C : Nat) (D E : Int) (k : Nat) : tau A B C D E k = Rat.divInt (tmK A B C D E k) ((comK A B C D E : Nat) : Int) := by
  by_cases h : okK A B C D E k = true
  · rw [← frac_com h, divInt_inv]
    obtain ⟨h1, h2, h3, h4, h5⟩ := of_decide_eq_true h
    unfold tau
    rw [sgR_nat, inv_nat (n := (k : Int)) (by omega), inv_nat (n := (A : Int) - k) (by omega), inv_nat (n := (B : Int) - k) (by omega), inv_nat (n := (C : Int) - k) (by omega), inv_nat (n := D + k) h4, inv_nat (n := E + k) h5]
    rw [show ((k : Int)).toNat = k by omega, show ((A : Int) - k).toNat = A - k by omega, show ((B : Int) - k).toNat = B - k by omega, show ((C : Int) - k).toNat = C - k by omega]
    unfold botK
    simp only [Int.natCast_mul, Rat.intCast_mul, Rat.inv_mul_rev]
    grind
  · have e : tmK A B C D E k = 0 := if_neg h
    rw [e, Rat.zero_divInt]
    have h' : ¬ (k ≤ A ∧ k ≤ B ∧ k ≤ C ∧ 0 ≤ D + k ∧ 0 ≤ E + k) := fun z => h (decide_eq_true z)
    unfold tau
    by_cases h1 : k ≤ A
    rotate_left
    · rw [inv_neg (n := (A : Int) - k) (by omega)]
      grind
    by_cases h2 : k ≤ B
    rotate_left
    · rw [inv_neg (n := (B : Int) - k) (by omega)]
      grind
    by_cases h3 : k ≤ C
    rotate_left
    · rw [inv_neg (n := (C : Int) - k) (by omega)]
      grind
    by_cases h4 : 0 ≤ D + k
    rotate_left
    · rw [inv_neg (n := D + k) (by omega)]
      grind
    rw [inv_neg (n := E + k) (by omega)]
    grind
theorem tau_sums (A B C : Nat) (D E : Int) : ∀ n, sumR (fun k => tau A B C D E k) n = Rat.divInt (sumK (tmK A B C D E) n) ((comK A B C D E : Nat) : Int)
  | 0 => by
    rw [show sumK (tmK A B C D E) 0 = 0 from rfl, Rat.zero_divInt]
    rfl
  | n + 1 => by
    have c0 := comK_pos A B C D E
    rw [sumK_succ, ← divInt_sum _ _ (by omega), ← tau_sums A B C D E n, ← tau_tm]
    rfl
theorem tau_none (A B : Int) (D E : Int) : ∀ n : Nat, sumR (fun k => tau A B (-1) D E k) n = 0
  | 0 => rfl
  | n + 1 => by
    show sumR _ n + tau A B (-1) D E n = 0
    rw [tau_none A B D E n]
    unfold tau
    rw [inv_neg (n := -1 - (n : Int)) (by omega)]
    grind
/-- whole numbers: the sum of a step is that of both steps below -/
def smK (A B : Nat) (C : Int) (D E : Int) : Int := if C < 0 then 0 else sumK (tmK A B C.toNat D E) (A + 1)
theorem sum_up (A B C : Nat) (D E : Int) : ((C : Int) + D) * sumK (tmK A B C D E) (A + 1) = ((B : Int) + 1) * sumK (tmK A (B + 1) C (D - 1) E) (A + 1) + (E + A + 1) * smK A B ((C : Int) - 1) D (E + 1) := by
  have c0 := comK_pos A B C D E
  have e1 : comK A (B + 1) C (D - 1) E = comK A B C D E := by
    unfold comK
    rw [show (((B + 1 : Nat) : Int) + (D - 1)) = (B : Int) + D by omega]
  have h := tau_up A (B : Int) (C : Int) D E
  have h1 := tau_sums A B C D E (A + 1)
  have h2 := tau_sums A (B + 1) C (D - 1) E (A + 1)
  rw [e1] at h2
  have h2' : sumR (fun k => tau A ((B : Int) + 1) C (D - 1) E k) (A + 1) = Rat.divInt (sumK (tmK A (B + 1) C (D - 1) E) (A + 1)) ((comK A B C D E : Nat) : Int) := h2
  have h3 : sumR (fun k => tau A B ((C : Int) - 1) D (E + 1) k) (A + 1) = Rat.divInt (smK A B ((C : Int) - 1) D (E + 1)) ((comK A B C D E : Nat) : Int) := by
    unfold smK
    by_cases hc : C = 0
    · subst hc
      rw [if_pos (by decide), Rat.zero_divInt]
      exact tau_none A B D (E + 1) (A + 1)
    · obtain ⟨m, rfl⟩ : ∃ m, C = m + 1 := ⟨C - 1, by omega⟩
      have e2 : comK A B m D (E + 1) = comK A B (m + 1) D E := by
        unfold comK
        rw [show ((m : Int) + (E + 1)) = ((m + 1 : Nat) : Int) + E by omega]
      have h4 := tau_sums A B m D (E + 1) (A + 1)
      rw [e2] at h4
      rw [if_neg (by omega), show (((m + 1 : Nat) : Int) - 1) = (m : Int) by omega, Int.toNat_natCast]
      exact h4
  rw [h1, h2', h3, divInt_inv, divInt_inv, divInt_inv] at h
  have cr : (((comK A B C D E : Nat) : Int) : Rat) ≠ 0 := by
    intro z
    have z2 : ((comK A B C D E : Nat) : Int) = 0 := by exact_mod_cast z
    omega
  have key : (((C : Int) + D : Int) : Rat) * ((sumK (tmK A B C D E) (A + 1) : Int) : Rat) = (((B : Int) + 1 : Int) : Rat) * ((sumK (tmK A (B + 1) C (D - 1) E) (A + 1) : Int) : Rat) + ((E + A + 1 : Int) : Rat) * ((smK A B ((C : Int) - 1) D (E + 1) : Int) : Rat) := by
    generalize (((comK A B C D E : Nat) : Int) : Rat) = y at *
    generalize ((sumK (tmK A B C D E) (A + 1) : Int) : Rat) = x1 at *
    generalize ((sumK (tmK A (B + 1) C (D - 1) E) (A + 1) : Int) : Rat) = x2 at *
    generalize ((smK A B ((C : Int) - 1) D (E + 1) : Int) : Rat) = x3 at *
    generalize (((C : Int) + D : Int) : Rat) = n1 at *
    generalize (((B : Int) + 1 : Int) : Rat) = n2 at *
    generalize ((E + A + 1 : Int) : Rat) = n3 at *
    grind
  exact_mod_cast key
/-! the step down: the same with both sides exchanged -/
theorem okK_swap (A B C : Nat) (D E : Int) (k : Nat) : okK A B C D E k = okK A C B E D k := by
  unfold okK
  exact decide_eq_decide.mpr ⟨fun ⟨h1, h2, h3, h4, h5⟩ => ⟨h1, h3, h2, h5, h4⟩, fun ⟨h1, h2, h3, h4, h5⟩ => ⟨h1, h3, h2, h5, h4⟩⟩
theorem comK_swap (A B C : Nat) (D E : Int) : comK A B C D E = comK A C B E D := by
  unfold comK
  rw [Nat.mul_assoc, Nat.mul_comm (factN ((B : Int) + D).toNat), ← Nat.mul_assoc]
theorem botK_swap (A B C : Nat) (D E : Int) (k : Nat) : botK A B C D E k = botK A C B E D k := by
  unfold botK
  generalize factN k * factN (A - k) = x
  generalize factN (B - k) = y1
  generalize factN (C - k) = y2
  generalize factN (D + k).toNat = y3
  generalize factN (E + k).toNat = y4
  simp only [Nat.mul_assoc, Nat.mul_left_comm, Nat.mul_comm]
theorem tmK_swap (A B C : Nat) (D E : Int) : tmK A B C D E = tmK A C B E D := by
  funext k
  unfold tmK
  rw [okK_swap, comK_swap, botK_swap]
def smB (A : Nat) (B : Int) (C : Nat) (D E : Int) : Int := if B < 0 then 0 else sumK (tmK A B.toNat C D E) (A + 1)
theorem sum_down (A B C : Nat) (D E : Int) : ((B : Int) + E) * sumK (tmK A B C D E) (A + 1) = ((C : Int) + 1) * sumK (tmK A B (C + 1) D (E - 1)) (A + 1) + (D + A + 1) * smB A ((B : Int) - 1) C (D + 1) E := by
  have h := sum_up A C B E D
  rw [tmK_swap A C B E D, tmK_swap A (C + 1) B (E - 1) D] at h
  have e : smK A C ((B : Int) - 1) E (D + 1) = smB A ((B : Int) - 1) C (D + 1) E := by
    unfold smK smB
    rw [tmK_swap]
  rw [e] at h
  exact h
end TCX
namespace TCX
theorem SqF.cop {a b : Nat} (c : Nat.Coprime a b) (ha : SqF a) (hb : SqF b) : SqF (a * b) := fun d hd => by
  have d1 : d ∣ a * b := Nat.dvd_trans (Nat.dvd_mul_right d d) hd
  have e : d = Nat.gcd d a * Nat.gcd d b := by
    have z := Nat.Coprime.gcd_mul d c
    rw [Nat.gcd_eq_left d1] at z
    exact z
  have hx : Nat.gcd d a = 1 := by
    refine ha _ ?_
    have x1 : Nat.gcd d a * Nat.gcd d a ∣ a * b := Nat.dvd_trans (Nat.mul_dvd_mul (Nat.gcd_dvd_left d a) (Nat.gcd_dvd_left d a)) hd
    have c1 : Nat.Coprime (Nat.gcd d a) b := Nat.Coprime.coprime_dvd_left (Nat.gcd_dvd_right d a) c
    exact Nat.Coprime.dvd_of_dvd_mul_right (Nat.Coprime.mul_left c1 c1) x1
  have hy : Nat.gcd d b = 1 := by
    refine hb _ ?_
    have x1 : Nat.gcd d b * Nat.gcd d b ∣ a * b := Nat.dvd_trans (Nat.mul_dvd_mul (Nat.gcd_dvd_left d b) (Nat.gcd_dvd_left d b)) hd
    have c1 : Nat.Coprime (Nat.gcd d b) a := Nat.Coprime.coprime_dvd_left (Nat.gcd_dvd_right d b) c.symm
    exact Nat.Coprime.dvd_of_dvd_mul_left (Nat.Coprime.mul_left c1 c1) x1
  rw [hx, hy] at e
  exact e
theorem SqF.mulR {a b : Nat} (ha : SqF a) (hb : SqF b) : SqF (a / Nat.gcd a b * (b / Nat.gcd a b)) := by
  have a0 := ha.pos
  have g0 : 0 < Nat.gcd a b := Nat.gcd_pos_of_pos_left _ a0
  exact SqF.cop (Nat.coprime_div_gcd_div_gcd g0) (ha.dvd (Nat.div_dvd_of_dvd (Nat.gcd_dvd_left a b))) (hb.dvd (Nat.div_dvd_of_dvd (Nat.gcd_dvd_right a b)))
/-- a root times a joined number's root: one root for all that differ by squares -/
theorem root_times {ab ab0 be : List Nat} (h1 : ∀ n ∈ ab, n < 123) (h2 : ∀ n ∈ ab0, n < 123) (h3 : ∀ n ∈ be, n < 123) {N sq fr f : Nat} (hN : N * 1 = sq * sq * fr) (hf : SqF fr) (sq0 : 0 < sq) (hP : N * prodF ab = f * f * prodF ab0) (f0 : 0 < f) :
    fr / Nat.gcd fr (rootE ab be) * (rootE ab be / Nat.gcd fr (rootE ab be)) = rootE ab0 be ∧ sq * topE ab be * Nat.gcd fr (rootE ab be) * botE ab0 be = f * topE ab0 be * botE ab be := by
  have pb : 0 < prodF be := by
    rw [prodF_leg h3]
    exact powP_pos pr30_p
  have e1 := rootE_ok h1 h3
  have e2 := rootE_ok h2 h3
  have s1 := rootE_sqF ab be
  have s2 := rootE_sqF ab0 be
  have sm := SqF.mulR hf s1
  have g0 : 0 < Nat.gcd fr (rootE ab be) := Nat.gcd_pos_of_pos_left _ hf.pos
  have d1 := Nat.div_mul_cancel (Nat.gcd_dvd_left fr (rootE ab be))
  have d2 := Nat.div_mul_cancel (Nat.gcd_dvd_right fr (rootE ab be))
  have t0 := topE_pos ab be
  have b0 := botE_pos ab0 be
  revert d1 d2 g0 sm
  generalize Nat.gcd fr (rootE ab be) = g
  generalize fr / g = x
  generalize rootE ab be / g = y
  intro sm g0 d1 d2
  have key : (sq * topE ab be * g * botE ab0 be) * (sq * topE ab be * g * botE ab0 be) * (x * y) = (f * topE ab0 be * botE ab be) * (f * topE ab0 be * botE ab be) * rootE ab0 be := by
    refine Nat.eq_of_mul_eq_mul_right pb ?_
    calc (sq * topE ab be * g * botE ab0 be) * (sq * topE ab be * g * botE ab0 be) * (x * y) * prodF be
        = (botE ab0 be * botE ab0 be) * (sq * sq * (x * g)) * (topE ab be * topE ab be * (y * g) * prodF be) := by simp only [Nat.mul_assoc, Nat.mul_left_comm, Nat.mul_comm]
      _ = (botE ab0 be * botE ab0 be) * (N * 1) * (botE ab be * botE ab be * prodF ab) := by rw [d1, d2, ← hN, e1]
      _ = (botE ab0 be * botE ab0 be) * (botE ab be * botE ab be) * (N * prodF ab) := by simp only [Nat.mul_one, Nat.mul_assoc, Nat.mul_left_comm, Nat.mul_comm]
      _ = (botE ab0 be * botE ab0 be) * (botE ab be * botE ab be) * (f * f * prodF ab0) := by rw [hP]
      _ = (f * f) * (botE ab be * botE ab be) * (botE ab0 be * botE ab0 be * prodF ab0) := by simp only [Nat.mul_assoc, Nat.mul_left_comm, Nat.mul_comm]
      _ = (f * f) * (botE ab be * botE ab be) * (topE ab0 be * topE ab0 be * rootE ab0 be * prodF be) := by rw [e2]
      _ = _ := by simp only [Nat.mul_assoc, Nat.mul_left_comm, Nat.mul_comm]
  obtain ⟨z1, z2⟩ := sq_uniq (Nat.mul_pos (Nat.mul_pos (Nat.mul_pos sq0 t0) g0) b0) sm s2 key
  exact ⟨z2, z1⟩
end TCX
/-! roots of fractions: a number s times the root of N, as one root and one fraction -/
namespace TCX
theorem sq_part : ∀ n : Nat, 0 < n → ∃ s f : Nat, 0 < s ∧ SqF f ∧ n = s * s * f := by
  intro n
  induction n using Nat.strongRecOn with
  | _ n ih =>
    intro h
    by_cases hs : SqF n
    · exact ⟨1, n, by decide, hs, by omega⟩
    · have : ∃ d, d * d ∣ n ∧ d ≠ 1 := Classical.byContradiction fun z => hs fun d hd => Classical.byContradiction fun y => z ⟨d, hd, y⟩
      obtain ⟨d, ⟨k, hk⟩, d1⟩ := this
      have d0 : 0 < d := by
        rcases Nat.eq_zero_or_pos d with z | z
        · subst z
          simp at hk
          omega
        · exact z
      have k0 : 0 < k := by
        rcases Nat.eq_zero_or_pos k with z | z
        · rw [z, Nat.mul_zero] at hk
          omega
        · exact z
      have dd : 4 ≤ d * d := Nat.mul_le_mul (show 2 ≤ d by omega) (show 2 ≤ d by omega)
      have lt : k < n := by
        rw [hk]
        have := Nat.mul_le_mul dd (Nat.le_refl k)
        omega
      obtain ⟨s, f, s0, hf, e⟩ := ih k lt k0
      exact ⟨d * s, f, Nat.mul_pos d0 s0, hf, by rw [hk, e]; simp only [Nat.mul_assoc, Nat.mul_left_comm, Nat.mul_comm]⟩
/-- F and Q: the root of N is Q times the root of F -/
structure IsRt (F : Nat) (Q N : Rat) : Prop where
  sq : SqF F
  q0 : 0 < Q
  e : Q * Q * (F : Rat) = N
theorem pos_nat {n : Nat} (h : 0 < n) : (0 : Rat) < (n : Rat) := by
  have := (Rat.natCast_lt_natCast (a := 0) (b := n)).mpr h
  simpa using this
theorem ne_of_pos {q : Rat} (h : 0 < q) : q ≠ 0 := fun z => by
  rw [z] at h
  exact Rat.lt_irrefl h
theorem rat_frac (q : Rat) : q * (q.den : Rat) = (q.num : Rat) := by
  rw [Rat.eq_iff_mul_eq_mul, Rat.num_mul, Rat.den_mul]
  show (q.num * (q.den : Int) / ((Nat.gcd (q.num * (q.den : Int)).natAbs (q.den * 1) : Nat) : Int)) * 1 = q.num * (((q.den * 1 / Nat.gcd (q.num * (q.den : Int)).natAbs (q.den * 1) : Nat)) : Int)
  have g : Nat.gcd (q.num * (q.den : Int)).natAbs (q.den * 1) = q.den := by
    rw [Nat.mul_one, Int.natAbs_mul, Int.natAbs_natCast]
    exact Nat.gcd_eq_right (Nat.dvd_mul_left _ _)
  have d0 := q.den_pos
  rw [g, Nat.mul_one, Nat.div_self d0, Int.mul_ediv_cancel _ (by omega)]
  rfl
theorem num_nat {q : Rat} (h : 0 < q) : ∃ n : Nat, 0 < n ∧ q.num = (n : Int) := by
  have z : 0 < q.num := (by
    have z := (Rat.lt_iff 0 q).mp h
    simpa using z)
  exact ⟨q.num.toNat, by omega, by omega⟩
theorem IsRt.uniq {F F' : Nat} {Q Q' N : Rat} (h : IsRt F Q N) (h' : IsRt F' Q' N) : F = F' ∧ Q = Q' := by
  obtain ⟨a, a0, ea⟩ := num_nat h.q0
  obtain ⟨c, c0, ec⟩ := num_nat h'.q0
  have d0 := Q.den_pos
  have d0' := Q'.den_pos
  have e1 := rat_frac Q
  have e2 := rat_frac Q'
  rw [ea] at e1
  rw [ec] at e2
  have e3 : Q * Q * (F : Rat) = Q' * Q' * (F' : Rat) := by rw [h.e, h'.e]
  have key : ((a * Q'.den : Nat) : Rat) * ((a * Q'.den : Nat) : Rat) * (F : Rat) = ((c * Q.den : Nat) : Rat) * ((c * Q.den : Nat) : Rat) * (F' : Rat) := by
    have x1 : ((a * Q'.den : Nat) : Rat) = Q * (Q.den : Rat) * (Q'.den : Rat) := by rw [e1, Rat.natCast_mul]; rfl
    have x2 : ((c * Q.den : Nat) : Rat) = Q' * (Q'.den : Rat) * (Q.den : Rat) := by rw [e2, Rat.natCast_mul]; rfl
    rw [x1, x2]
    grind
  have keyN : (a * Q'.den) * (a * Q'.den) * F = (c * Q.den) * (c * Q.den) * F' := by
    have : (((a * Q'.den) * (a * Q'.den) * F : Nat) : Rat) = (((c * Q.den) * (c * Q.den) * F' : Nat) : Rat) := by
      rw [Rat.natCast_mul, Rat.natCast_mul, Rat.natCast_mul (c * Q.den * (c * Q.den)), Rat.natCast_mul (c * Q.den) (c * Q.den)]
      exact key
    exact Rat.natCast_inj.mp this
  obtain ⟨z1, z2⟩ := sq_uniq (Nat.mul_pos a0 d0') h.sq h'.sq keyN
  refine ⟨z2, ?_⟩
  have w : ((a * Q'.den : Nat) : Rat) = ((c * Q.den : Nat) : Rat) := by rw [z1]
  rw [Rat.natCast_mul, Rat.natCast_mul] at w
  have n1 := ne_of_pos (pos_nat d0)
  have n2 := ne_of_pos (pos_nat d0')
  have y : Q * ((Q.den : Rat) * (Q'.den : Rat)) = Q' * ((Q.den : Rat) * (Q'.den : Rat)) := by
    have x1 : Q * ((Q.den : Rat) * (Q'.den : Rat)) = (a : Rat) * (Q'.den : Rat) := by rw [← Rat.mul_assoc, e1]; rfl
    have x2 : Q' * ((Q.den : Rat) * (Q'.den : Rat)) = (c : Rat) * (Q.den : Rat) := by rw [Rat.mul_comm (Q.den : Rat), ← Rat.mul_assoc, e2]; rfl
    rw [x1, x2, w]
  have ne : (Q.den : Rat) * (Q'.den : Rat) ≠ 0 := by
    intro z
    rcases Rat.mul_eq_zero.mp z with t | t
    · exact n1 t
    · exact n2 t
  grind
theorem IsRt.ex {N : Rat} (h : 0 < N) : ∃ F Q, IsRt F Q N := by
  obtain ⟨n, n0, en⟩ := num_nat h
  have d0 := N.den_pos
  obtain ⟨s, f, s0, hf, e⟩ := sq_part (n * N.den) (Nat.mul_pos n0 d0)
  have dn := ne_of_pos (pos_nat d0)
  refine ⟨f, (s : Rat) / (N.den : Rat), hf, ?_, ?_⟩
  · rw [Rat.div_def]
    exact Rat.mul_pos (pos_nat s0) (Rat.inv_pos.mpr (pos_nat d0))
  · have e1 := rat_frac N
    rw [en] at e1
    have e2 : (s : Rat) * (s : Rat) * (f : Rat) = (n : Rat) * (N.den : Rat) := by
      rw [← Rat.natCast_mul, ← Rat.natCast_mul, ← Rat.natCast_mul, e]
    have e3 : ((n : Nat) : Rat) = N * (N.den : Rat) := by rw [e1]; rfl
    rw [e3] at e2
    grind
open Classical in
noncomputable def rF (N : Rat) : Nat := if h : 0 < N then Classical.choose (IsRt.ex h) else 1
open Classical in
noncomputable def rQ (N : Rat) : Rat := if h : 0 < N then Classical.choose (Classical.choose_spec (IsRt.ex h)) else 1
theorem rt_ok {N : Rat} (h : 0 < N) : IsRt (rF N) (rQ N) N := by
  unfold rF rQ
  rw [dif_pos h, dif_pos h]
  exact Classical.choose_spec (Classical.choose_spec (IsRt.ex h))
theorem IsRt.is {F : Nat} {Q N : Rat} (h : IsRt F Q N) (h0 : 0 < N) : rF N = F ∧ rQ N = Q := (rt_ok h0).uniq h
theorem IsRt.pos {F : Nat} {Q N : Rat} (h : IsRt F Q N) : 0 < N := by
  rw [← h.e]
  exact Rat.mul_pos (Rat.mul_pos h.q0 h.q0) (pos_nat h.sq.pos)
/-- s times the root of N -/
noncomputable def sv (s N : Rat) (r : Int) : Rat := if r = (rF N : Int) then s * rQ N else 0
theorem IsRt.sv {F : Nat} {Q N : Rat} (h : IsRt F Q N) (s : Rat) (r : Int) : TCX.sv s N r = if r = (F : Int) then s * Q else 0 := by
  obtain ⟨e1, e2⟩ := h.is h.pos
  unfold TCX.sv
  rw [e1, e2]
theorem sv_zero (N : Rat) (r : Int) : sv 0 N r = 0 := by
  unfold sv
  split
  · rw [Rat.zero_mul]
  · rfl
theorem sv_add (s t N : Rat) (r : Int) : sv s N r + sv t N r = sv (s + t) N r := by
  unfold sv
  split
  · rw [Rat.add_mul]
  · rw [Rat.add_zero]
theorem sv_mul (s t N : Rat) (r : Int) : t * sv s N r = sv (t * s) N r := by
  unfold sv
  split
  · rw [Rat.mul_assoc]
  · rw [Rat.mul_zero]
theorem IsRt.one : IsRt 1 1 1 := ⟨SqF.one, by decide, by decide +kernel⟩
theorem sv_one (s : Rat) (r : Int) : sv s 1 r = if r = 1 then s else 0 := by
  rw [IsRt.one.sv]
  rw [Rat.mul_one]
  rfl
theorem IsRt.scale {F : Nat} {Q N t : Rat} (h : IsRt F Q N) (ht : 0 < t) : IsRt F (Q * t) (N * (t * t)) := ⟨h.sq, Rat.mul_pos h.q0 ht, by rw [← h.e]; grind⟩
theorem sv_sq {N t : Rat} (s : Rat) (hN : 0 < N) (ht : 0 < t) (r : Int) : sv s (N * (t * t)) r = sv (s * t) N r := by
  have h := rt_ok hN
  rw [(h.scale ht).sv, h.sv]
  split
  · grind
  · rfl
theorem IsRt.mul {F F' : Nat} {Q Q' N N' : Rat} (h : IsRt F Q N) (h' : IsRt F' Q' N') : IsRt (F / Nat.gcd F F' * (F' / Nat.gcd F F')) (Q * Q' * ((Nat.gcd F F' : Nat) : Rat)) (N * N') := by
  have g0 : 0 < Nat.gcd F F' := Nat.gcd_pos_of_pos_left _ h.sq.pos
  refine ⟨SqF.mulR h.sq h'.sq, Rat.mul_pos (Rat.mul_pos h.q0 h'.q0) (pos_nat g0), ?_⟩
  have d1 := Nat.div_mul_cancel (Nat.gcd_dvd_left F F')
  have d2 := Nat.div_mul_cancel (Nat.gcd_dvd_right F F')
  rw [← h.e, ← h'.e]
  have e1 : (F : Rat) = ((F / Nat.gcd F F' : Nat) : Rat) * ((Nat.gcd F F' : Nat) : Rat) := by rw [← Rat.natCast_mul, d1]
  have e2 : (F' : Rat) = ((F' / Nat.gcd F F' : Nat) : Rat) * ((Nat.gcd F F' : Nat) : Rat) := by rw [← Rat.natCast_mul, d2]
  rw [Rat.natCast_mul]
  generalize Nat.gcd F F' = g at *
  generalize F / g = x at *
  generalize F' / g = y at *
  rw [e1, e2]
  grind
end TCX
/-! the sum of a six -/
namespace TCX
set_option exponentiation.threshold 20000
theorem prodF_dvd : ∀ l : List Nat, prodF l ∣ factN l.sum
  | [] => Nat.dvd_refl _
  | n :: l => by
    show factN n * prodF l ∣ factN (n + l.sum)
    exact Nat.dvd_trans (Nat.mul_dvd_mul (Nat.dvd_refl _) (prodF_dvd l)) (fact_dvd n l.sum)
theorem prodF_pos : ∀ l : List Nat, 0 < prodF l
  | [] => by decide
  | n :: l => Nat.mul_pos (fact_pos n) (prodF_pos l)
theorem prodF_append : ∀ l m : List Nat, prodF (l ++ m) = prodF l * prodF m
  | [], m => (Nat.one_mul _).symm
  | n :: l, m => by
    show factN n * prodF (l ++ m) = factN n * prodF l * prodF m
    rw [prodF_append l m, Nat.mul_assoc]
theorem prodF_perm {l m : List Nat} (h : l.Perm m) : prodF l = prodF m := by
  induction h with
  | nil => rfl
  | cons x _ ih => exact congrArg (fun z => factN x * z) ih
  | swap x y l => exact Nat.mul_left_comm ..
  | trans _ _ h1 h2 => exact h1.trans h2
/-- what stands below the term k: lows ts, highs os -/
def sixB (ts os : List Nat) (k : Nat) : Nat := prodF ((ts.map fun t => k - t) ++ os.map fun o => o - k)
theorem sixB_pos (ts os : List Nat) (k : Nat) : 0 < sixB ts os k := prodF_pos _
theorem sixB_perm {ts ts' os os' : List Nat} (h1 : ts.Perm ts') (h2 : os.Perm os') (k : Nat) : sixB ts os k = sixB ts' os' k := prodF_perm ((h1.map _).append (h2.map _))
def okS (ts os : List Nat) (k : Nat) : Bool := (ts.all fun t => decide (t ≤ k)) && os.all fun o => decide (k ≤ o)
theorem sum_sub1 : ∀ {ts : List Nat} {k : Nat}, (∀ t ∈ ts, t ≤ k) → (ts.map fun t => k - t).sum + ts.sum = ts.length * k
  | [], k, _ => by simp
  | t :: ts, k, h => by
    have h1 := sum_sub1 (ts := ts) (k := k) fun x hx => h x (List.mem_cons_of_mem _ hx)
    have h2 := h t (by simp)
    simp only [List.map_cons, List.sum_cons, List.length_cons, Nat.succ_mul, Nat.add_mul]
    omega
theorem sum_sub2 : ∀ {os : List Nat} {k : Nat}, (∀ o ∈ os, k ≤ o) → (os.map fun o => o - k).sum + os.length * k = os.sum
  | [], k, _ => by simp
  | o :: os, k, h => by
    have h1 := sum_sub2 (os := os) (k := k) fun x hx => h x (List.mem_cons_of_mem _ hx)
    have h2 := h o (by simp)
    simp only [List.map_cons, List.sum_cons, List.length_cons, Nat.succ_mul, Nat.add_mul]
    omega
theorem okS_iff {ts os : List Nat} {k : Nat} : okS ts os k = true ↔ (∀ t ∈ ts, t ≤ k) ∧ ∀ o ∈ os, k ≤ o := by
  unfold okS
  rw [Bool.and_eq_true, List.all_eq_true, List.all_eq_true]
  constructor
  · intro h
    exact ⟨fun t ht => of_decide_eq_true (h.1 t ht), fun o ho => of_decide_eq_true (h.2 o ho)⟩
  · intro h
    exact ⟨fun t ht => decide_eq_true (h.1 t ht), fun o ho => decide_eq_true (h.2 o ho)⟩
theorem sixB_dvd {ts os : List Nat} {k : Nat} (l1 : ts.length = 4) (l2 : os.length = 3) (e : ts.sum = os.sum) (h : okS ts os k = true) : sixB ts os k ∣ factN (k + 1) := by
  obtain ⟨h1, h2⟩ := okS_iff.mp h
  have s1 := sum_sub1 h1
  have s2 := sum_sub2 h2
  rw [l1] at s1
  rw [l2] at s2
  have z := prodF_dvd ((ts.map fun t => k - t) ++ os.map fun o => o - k)
  rw [List.sum_append, show (ts.map fun t => k - t).sum + (os.map fun o => o - k).sum = k by omega] at z
  exact Nat.dvd_trans z ⟨k + 1, Nat.mul_comm ..⟩
def sixT (ts os : List Nat) (k : Nat) : Int := if okS ts os k = true then sgK k * ((factN (k + 1) / sixB ts os k : Nat) : Int) else 0
theorem sixT_perm {ts ts' os os' : List Nat} (h1 : ts.Perm ts') (h2 : os.Perm os') (k : Nat) : sixT ts os k = sixT ts' os' k := by
  have e : okS ts os k = okS ts' os' k := by
    rw [Bool.eq_iff_iff, okS_iff, okS_iff]
    constructor
    · intro h
      exact ⟨fun t ht => h.1 t (h1.mem_iff.mpr ht), fun t ht => h.2 t (h2.mem_iff.mpr ht)⟩
    · intro h
      exact ⟨fun t ht => h.1 t (h1.mem_iff.mp ht), fun t ht => h.2 t (h2.mem_iff.mp ht)⟩
  unfold sixT
  rw [e, sixB_perm h1 h2]
/-- a term is whole -/
theorem sixT_rat {ts os : List Nat} {k : Nat} (l1 : ts.length = 4) (l2 : os.length = 3) (e : ts.sum = os.sum) (h : okS ts os k = true) : Rat.divInt (sgK k * ((factN (k + 1) : Nat) : Int)) ((sixB ts os k : Nat) : Int) = ((sixT ts os k : Int) : Rat) := by
  obtain ⟨m, hm⟩ := sixB_dvd l1 l2 e h
  have p := sixB_pos ts os k
  unfold sixT
  rw [if_pos h, hm, Nat.mul_div_cancel_left _ p]
  rw [Int.natCast_mul, ← Int.mul_assoc, Int.mul_comm (sgK k), Int.mul_assoc]
  have z : Rat.divInt (((sixB ts os k : Nat) : Int) * (sgK k * (m : Int))) (((sixB ts os k : Nat) : Int) * 1) = Rat.divInt (sgK k * (m : Int)) 1 := Rat.divInt_mul_left (by omega)
  rw [Int.mul_one] at z
  rw [z]
  exact (Rat.num_divInt_den ((sgK k * (m : Int) : Int) : Rat))
def lsFrom (lo n : Nat) (f : Nat → Int) : List Int := (List.range n).map fun i => f (lo + i)
theorem lsFrom_succ (lo n : Nat) (f : Nat → Int) : lsFrom lo (n + 1) f = lsFrom lo n f ++ [f (lo + n)] := by
  unfold lsFrom
  rw [List.range_succ, List.map_append]
  rfl
theorem fact81 : ∀ n, n ≤ 82 → factN n < 2 ^ 410 := by decide +kernel
theorem fact_mono : ∀ {m n : Nat}, m ≤ n → factN m ≤ factN n := by
  intro m n h
  obtain ⟨d, rfl⟩ := Nat.exists_eq_add_of_le h
  have := fact_dvd m d
  exact Nat.le_trans (Nat.le_mul_of_pos_right _ (fact_pos d)) (Nat.le_of_dvd (fact_pos _) this)
theorem sgK_abs (k : Nat) : (sgK k).natAbs = 1 := by
  unfold sgK
  split <;> rfl
theorem sixT_lt {ts os : List Nat} {k : Nat} (hk : k ≤ 81) : (sixT ts os k).natAbs < 2 ^ 410 := by
  unfold sixT
  split
  · rw [Int.natAbs_mul, sgK_abs, Nat.one_mul, Int.natAbs_natCast]
    exact Nat.lt_of_le_of_lt (Nat.div_le_self ..) (fact81 _ (by omega))
  · decide
theorem sum_lt : ∀ {l : List Int} {M : Nat}, (∀ x ∈ l, x.natAbs ≤ M) → l.sum.natAbs ≤ l.length * M
  | [], M, _ => by simp
  | x :: l, M, h => by
    have h1 := sum_lt (l := l) fun y hy => h y (List.mem_cons_of_mem _ hy)
    have h2 := h x (by simp)
    have h3 := Int.natAbs_add_le x l.sum
    rw [List.sum_cons, List.length_cons, Nat.succ_mul]
    omega
end TCX
namespace TCX
set_option exponentiation.threshold 20000
theorem filter_eq {p q : Nat → Bool} : ∀ {l : List Nat}, (∀ k ∈ l, p k = q k) → l.filter p = l.filter q
  | [], _ => rfl
  | k :: l, h => by
    have h1 := filter_eq (l := l) fun x hx => h x (List.mem_cons_of_mem _ hx)
    have h2 := h k (by simp)
    simp [List.filter_cons, h1, h2]
theorem range_le (lo n m : Nat) (h : lo + n ≤ m) : (List.range m).filter (fun k => decide (lo ≤ k) && decide (k < lo + n)) = (List.range n).map (lo + ·) := by
  obtain ⟨d, rfl⟩ := Nat.exists_eq_add_of_le h
  rw [List.range_add, List.range_add, List.filter_append, List.filter_append]
  have e1 : (List.range lo).filter (fun k => decide (lo ≤ k) && decide (k < lo + n)) = [] := by
    rw [List.filter_eq_nil_iff]
    intro k hk
    have := List.mem_range.mp hk
    simp
    try omega
  have e2 : ((List.range n).map (lo + ·)).filter (fun k => decide (lo ≤ k) && decide (k < lo + n)) = (List.range n).map (lo + ·) := by
    rw [List.filter_eq_self]
    intro k hk
    obtain ⟨i, hi, rfl⟩ := List.mem_map.mp hk
    have := List.mem_range.mp hi
    simp
    try omega
  have e3 : ((List.range d).map (lo + n + ·)).filter (fun k => decide (lo ≤ k) && decide (k < lo + n)) = [] := by
    rw [List.filter_eq_nil_iff]
    intro k hk
    obtain ⟨i, _, rfl⟩ := List.mem_map.mp hk
    simp
    try omega
  rw [e1, e2, e3]
  simp
/-- the terms of the sum of a six, k by k -/
def sixTL (ts os : List Nat) : List Int := ((List.range 82).filter (okS ts os)).map (sixT ts os)
theorem sixTL_is {ts os : List Nat} {lo n : Nat} (h : ∀ k, okS ts os k = true ↔ lo ≤ k ∧ k < lo + n) (hn : lo + n ≤ 82) : sixTL ts os = lsFrom lo n (sixT ts os) := by
  unfold sixTL lsFrom
  rw [filter_eq (q := fun k => decide (lo ≤ k) && decide (k < lo + n)) fun k _ => by
    rw [Bool.eq_iff_iff, h k]
    simp, range_le lo n 82 hn, List.map_map]
  rfl
theorem sixTL_perm {ts ts' os os' : List Nat} (h1 : ts.Perm ts') (h2 : os.Perm os') : sixTL ts os = sixTL ts' os' := by
  unfold sixTL
  have e : okS ts os = okS ts' os' := funext fun k => by
    rw [Bool.eq_iff_iff, okS_iff, okS_iff]
    constructor
    · intro h
      exact ⟨fun t ht => h.1 t (h1.mem_iff.mpr ht), fun t ht => h.2 t (h2.mem_iff.mpr ht)⟩
    · intro h
      exact ⟨fun t ht => h.1 t (h1.mem_iff.mp ht), fun t ht => h.2 t (h2.mem_iff.mp ht)⟩
  have e2 : sixT ts os = sixT ts' os' := funext fun k => sixT_perm h1 h2 k
  rw [e, e2]
def sixS (ts os : List Nat) : Int := (sixTL ts os).sum
end TCX
namespace TCX
set_option exponentiation.threshold 20000
theorem fact_lt2' : ∀ n, n < 42 → factN n < 2 ^ 166 := by decide +kernel
theorem prodF_lt2' : ∀ {l : List Nat}, (∀ n ∈ l, n < 42) → prodF l < 2 ^ (166 * l.length + 1)
  | [], _ => by decide
  | n :: l, h => by
    have h1 := prodF_lt2' (l := l) fun m hm => h m (List.mem_cons_of_mem _ hm)
    show factN n * prodF l < 2 ^ (166 * (l.length + 1) + 1)
    rw [show 166 * (l.length + 1) + 1 = 166 + (166 * l.length + 1) by omega, Nat.pow_add]
    exact Nat.mul_lt_mul'' (fact_lt2' n (h n (by simp))) h1
theorem sixTL_len (ts os : List Nat) : (sixTL ts os).length ≤ 82 := by
  unfold sixTL
  rw [List.length_map]
  exact Nat.le_trans (List.length_filter_le _ _) (by rw [List.length_range]; exact Nat.le_refl _)
theorem sixTL_lt {ts os : List Nat} : ∀ x ∈ sixTL ts os, x.natAbs < 2 ^ 410 := fun x hx => by
  obtain ⟨k, hk, rfl⟩ := List.mem_map.mp hx
  have := List.mem_range.mp (List.mem_filter.mp hk).1
  exact sixT_lt (by omega)
theorem sixS_lt {ts os : List Nat} : (sixS ts os).natAbs < 2 ^ 417 := by
  have z := sum_lt (l := sixTL ts os) (M := 2 ^ 410) fun x hx => Nat.le_of_lt (sixTL_lt x hx)
  have y := Nat.mul_le_mul (sixTL_len ts os) (Nat.le_refl (2 ^ 410))
  have x : 82 * 2 ^ 410 < 2 ^ 417 := by decide +kernel
  exact Nat.lt_of_le_of_lt z (Nat.lt_of_le_of_lt y x)
end TCX
namespace TCX
open PySem PySem.Spec PyProof.Rows L2
section
variable {prog : Program} {w : World} {A : Around} {E : Value → Shared → Prop} {s : Shared} {t : Addr} {xs : Array (Int × Tok)}
theorem min_tup {Q : Value → Shared → Prop} (hh : A.handled = none) (ht : s.heap.IsTuple t (intItems xs)) (hp : 0 < xs.size)
    (h : ∀ v h' tk, (intItems xs)[argBest (fun i j => decide (numAt xs i < numAt xs j)) (xs.size - 1)]? = some v → (∀ b o, s.heap.get? b = some o → h'.get? b = some o) → Q v { s with heap := h', toks := tk }) :
    wpAny (model prog w) A (call (.builtin "min") [.ref t]) Q E s := by
  obtain ⟨hne, hb⟩ := tup_below ht
  refine call_min_walk (wpAny_pyIter_tuple ht ?_)
  refine ⟨_, [_, t], [_], _, _, _, _, rfl, Walks.tuple (A := A.in1) hh _ t hne (intItems xs), ⟨⟨_, Heap.get?_push_size _ rfl, rfl, rfl⟩, ht.push _⟩, hb, by simpa [intItems] using hp, CmpOf.ints_lt (numAt xs) (fun _ _ => intItems_at), fun v h' tk hP hk => ?_⟩
  exact h v h' tk (by simpa [intItems] using hP) (tup_kept hk)
end
section
variable {X : Cx}
/-- min(t) of a tuple of whole numbers -/
def rMinT (K : PySem.W.Frag) : List V → Hp → VK → Prop := fun vs H Q => ∃ (a : Addr) (ns : List Int), vs = [V.ref a] ∧ SqT K H a (ns.map V.int) ∧ 0 < ns.length ∧ ∀ m, m ∈ ns → (∀ y, y ∈ ns → m ≤ y) → Q (.int m) H
theorem cr_minT (hc : X.calm = true) : CallR X (.builtin "min") (rMinT X.K) := by
  intro pins s σ H vs us Q I r h
  obtain ⟨a, ns, rfl, hs, hne, q⟩ := h
  obtain ⟨its, rv, ht, _⟩ := I.tuple hs
  rw [Vals.ref1 r]
  have hi := rv.ints
  obtain ⟨xs, e⟩ := hi.allInts.items
  have hn : numsOf (intItems xs).toList = ns := by rw [← e]; exact hi.numsOf
  rw [nums_intItems] at hn
  subst hn
  rw [e] at ht
  have hsz : 0 < xs.size := by simpa using hne
  refine min_tup (I.ok.hd hc) ht hsz fun v h' tk hv hk => ?_
  obtain ⟨t, rfl⟩ := intItems_at hv
  obtain ⟨h1, h2⟩ := argBest_lt (numAt xs) (xs.size - 1)
  refine ⟨.int _, H, I.kept hk, ⟨_, rfl⟩, q _ ?_ fun y hy => ?_⟩
  · rw [numAt_eq]
    exact PySem.getD_mem (by rw [List.length_map, Array.length_toList]; omega)
  · obtain ⟨j, hj, rfl⟩ := mem_getD hy
    rw [List.length_map, Array.length_toList] at hj
    rw [← numAt_eq]
    exact h2 j (by omega)
end
end TCX
namespace TC
set_option exponentiation.threshold 20000
open PySem PySem.Spec PyProof.Rows L2 TCA TCX
/-- six sizes whose triangles may all be joined -/
structure SixP (a b c d e f : Int) : Prop where
  i : ∀ x ∈ [a, b, c, d, e, f], 0 ≤ x ∧ x ≤ 40
  j : Jn a b c d e f = true
def natL (l : List Int) : List Nat := l.map Int.toNat
def sixTs (a b c d e f : Int) : List Nat := natL (lows a b c d e f)
def sixOs (a b c d e f : Int) : List Nat := natL (opps a b c d e f)
theorem jn_iff {a b c d e f : Int} : Jn a b c d e f = true ↔ canB a b c = true ∧ canB a e f = true ∧ canB d b f = true ∧ canB d e c = true := by
  unfold Jn
  simp only [Bool.and_eq_true]
structure SixF (a b c d e f : Int) : Prop where
  a0 : 0 ≤ a ∧ a ≤ 40
  b0 : 0 ≤ b ∧ b ≤ 40
  c0 : 0 ≤ c ∧ c ≤ 40
  d0 : 0 ≤ d ∧ d ≤ 40
  e0 : 0 ≤ e ∧ e ≤ 40
  f0 : 0 ≤ f ∧ f ≤ 40
  t1 : (a + b + c) % 2 = 0 ∧ a ≤ b + c ∧ b ≤ a + c ∧ c ≤ a + b
  t2 : (a + e + f) % 2 = 0 ∧ a ≤ e + f ∧ e ≤ a + f ∧ f ≤ a + e
  t3 : (d + b + f) % 2 = 0 ∧ d ≤ b + f ∧ b ≤ d + f ∧ f ≤ d + b
  t4 : (d + e + c) % 2 = 0 ∧ d ≤ e + c ∧ e ≤ d + c ∧ c ≤ d + e
theorem SixP.f {a b c d e f : Int} (h : SixP a b c d e f) : SixF a b c d e f := by
  obtain ⟨h1, h2, h3, h4⟩ := jn_iff.mp h.j
  exact ⟨h.i _ (by simp), h.i _ (by simp), h.i _ (by simp), h.i _ (by simp), h.i _ (by simp), h.i _ (by simp), canB_iff.mp h1, canB_iff.mp h2, canB_iff.mp h3, canB_iff.mp h4⟩
theorem lows_eq (a b c d e f : Int) : lows a b c d e f = [(a + b + c) / 2, (a + e + f) / 2, (d + b + f) / 2, (d + e + c) / 2] := by
  unfold lows quad
  simp only [List.map_cons, List.map_nil, List.sum_cons, List.sum_nil, Int.add_zero, Int.add_assoc]
theorem lows_b {a b c d e f : Int} (h : SixF a b c d e f) : ∀ x ∈ lows a b c d e f, 0 ≤ x ∧ x ≤ 60 := by
  obtain ⟨h1, h2, h3, h4, h5, h6, h7, h8, h9, h10⟩ := h
  intro x hx
  rw [lows_eq] at hx
  simp only [List.mem_cons, List.not_mem_nil, or_false] at hx
  omega
theorem opps_b {a b c d e f : Int} (h : SixF a b c d e f) : ∀ x ∈ opps a b c d e f, 0 ≤ x ∧ x ≤ 80 := by
  obtain ⟨h1, h2, h3, h4, h5, h6, h7, h8, h9, h10⟩ := h
  intro x hx
  unfold opps at hx
  simp only [List.mem_cons, List.not_mem_nil, or_false] at hx
  omega
theorem low_opp {a b c d e f : Int} (h : SixF a b c d e f) : ∀ x ∈ lows a b c d e f, ∀ y ∈ opps a b c d e f, x ≤ y := by
  obtain ⟨h1, h2, h3, h4, h5, h6, h7, h8, h9, h10⟩ := h
  intro x hx y hy
  rw [lows_eq] at hx
  unfold opps at hy
  simp only [List.mem_cons, List.not_mem_nil, or_false] at hx hy
  omega
theorem six_sum {a b c d e f : Int} (h : SixF a b c d e f) : (sixTs a b c d e f).sum = (sixOs a b c d e f).sum := by
  obtain ⟨h1, h2, h3, h4, h5, h6, h7, h8, h9, h10⟩ := h
  unfold sixTs sixOs natL
  rw [lows_eq]
  unfold opps
  simp only [List.map_cons, List.map_nil, List.sum_cons, List.sum_nil]
  omega
theorem six_len (a b c d e f : Int) : (sixTs a b c d e f).length = 4 ∧ (sixOs a b c d e f).length = 3 := ⟨rfl, rfl⟩
theorem nat_ints {l : List Int} (h : ∀ x ∈ l, 0 ≤ x) : l.map V.int = (natL l).map fun n : Nat => V.int (n : Int) := by
  unfold natL
  rw [List.map_map]
  refine List.map_congr_left fun x hx => ?_
  show V.int x = V.int ((x.toNat : Nat) : Int)
  rw [Int.toNat_of_nonneg (h x hx)]
theorem natL_mem {l : List Int} {n : Nat} (h : n ∈ natL l) : ∃ x ∈ l, n = x.toNat := by
  obtain ⟨x, hx, e⟩ := List.mem_map.mp h
  exact ⟨x, hx, e.symm⟩
theorem Srt.nat {L M : List Int} (h : Srt L M) : (natL L).Perm (natL M) := h.1.map _
def prodT (k : Nat) (l : List Nat) : Nat := prodF (l.map fun t => k - t)
def prodO (k : Nat) (l : List Nat) : Nat := prodF (l.map fun o => o - k)
theorem mem_le_sum : ∀ {l : List Nat} {x : Nat}, x ∈ l → x ≤ l.sum
  | y :: l, x, h => by
    rw [List.sum_cons]
    rcases List.mem_cons.mp h with z | z
    · omega
    · have := mem_le_sum z
      omega
theorem prodF_snoc (l : List Nat) (n : Nat) : prodF (l ++ [n]) = prodF l * factN n := by
  rw [prodF_append]
  show _ * (factN n * 1) = _
  rw [Nat.mul_one]
theorem prodF_lt4 {l : List Nat} (h : ∀ n ∈ l, n ≤ 82) : prodF l < 2 ^ (410 * l.length + 1) := by
  induction l with
  | nil => decide
  | cons n l ih =>
    show factN n * prodF l < 2 ^ (410 * (l.length + 1) + 1)
    rw [show 410 * (l.length + 1) + 1 = 410 + (410 * l.length + 1) by omega, Nat.pow_add]
    exact Nat.mul_lt_mul'' (fact81 n (h n (by simp))) (ih fun m hm => h m (List.mem_cons_of_mem _ hm))
section
variable {P : Program} {w : World} {K : PySem.W.Frag} {mg : Str → Option Value} {base : Heap} {f : Addr} {fd : FuncData} {C fI fQ : Addr}
/-! ### need_sizes of a tuple -/
def spNeedSizesT : Sp := fun vs H Q _ => ∃ (l : Addr) (ns : List Int), vs = [.ref l] ∧ H l = some (iv ns) ∧ (∀ n ∈ ns, 0 ≤ n ∧ n ≤ 40) ∧ Q .non H
abbrev nNeedSizesT : List Str := ["things", "thing"]
theorem scNeedSizesT : FnScope nNeedSizesT ["things"] (defScope sNeedSizes) := ⟨rfl, rfl, rfl, by decide +kernel, rfl, by decide +kernel, by decide +kernel⟩
theorem ok_needSizesT {fS : Addr} {fdS : FuncData} (F : FnP K "need_sizes" sNeedSizes f fd) (GS : FnOk P w K mg base CX0 2 fS fdS ["thing"] spIsSize) (bS : L2.Binds K fdS ["thing"] []) (kS : PySem.W.keepIn K (.ref fS) = true) (gS : mg "is_size" = some (.ref fS)) :
    FnOk P w K mg base CX0 3 f fd ["things"] spNeedSizesT := by
  refine F.ok scNeedSizesT (fun vs H Q E h => ?_) (fun cdv A outer s H vs Q E hr h => ?_)
  · obtain ⟨_, _, rfl, _⟩ := h
    rfl
  obtain ⟨l, ns, rfl, hl, hn, q⟩ := h
  have hr2 := hr.mono (j := 2) (by decide)
  refine ⟨_, PSs.nox (pss_one (ps_for PassesOwn.never rfl (pi_tup (pv 0)) (pg_name (i := 1) scNeedSizesT.nd rfl (.inl rfl))
        (pss_one (ps_if (pt_not (pt_val (pe_call GS hr2 (by rfl) gS kS bS .nil pass0 (pa_cons (pv 1) pa_nil)))) pss_never pss_nil)))), ?_⟩
  refine ⟨_, rfl, l, rfl, ⟨_, SqT.of hl⟩, for_tup (xs := ns.map V.int) (fun i σ H' => (∃ v, σ = [some (.ref l), v]) ∧ H' = H) ⟨⟨none, rfl⟩, rfl⟩ (fun i σ H' _ hP => by rw [hP.2]; exact SqT.of hl) (fun i x σ H' hx hP => ?_) (fun σ H' hP => by rw [hP.2]; exact q)⟩
  obtain ⟨⟨v, rfl⟩, rfl⟩ := hP
  obtain ⟨n, e, rfl⟩ := ints_at hx
  obtain ⟨n0, n1⟩ := hn n (List.mem_of_getElem? e)
  exact ⟨_, rfl, n, rfl, n0, n1, true, rfl, iteF ⟨⟨_, rfl⟩, rfl⟩⟩
/-! ### terms_of_six -/
abbrev nTermsSix : List Str := ["sizes", "triangles", "opposites", "known", "terms", "k", "bottom", "number", "term"]
end
end TC
namespace TC
set_option exponentiation.threshold 20000
open PySem PySem.Spec PyProof.Rows L2 TCA TCX
def ab3 (l : List Int) : List Nat := [((l.getD 0 0 + l.getD 1 0 - l.getD 2 0) / 2).toNat, ((l.getD 0 0 - l.getD 1 0 + l.getD 2 0) / 2).toNat, ((l.getD 1 0 + l.getD 2 0 - l.getD 0 0) / 2).toNat]
def be1 (l : List Int) : Nat := ((l.getD 0 0 + l.getD 1 0 + l.getD 2 0) / 2 + 1).toNat
def sAb (a b c d e f : Int) : List Nat := (quad a b c d e f).flatMap ab3
def sBe (a b c d e f : Int) : List Nat := (quad a b c d e f).map be1
/-- the six, as a root and a fraction -/
def sixL (a b c d e f : Int) : List Part := if Jn a b c d e f = true then oneQ ((rootE (sAb a b c d e f) (sBe a b c d e f) : Nat) : Int) (Rat.divInt (sixS (sixTs a b c d e f) (sixOs a b c d e f)) 1 * Rat.divInt ((topE (sAb a b c d e f) (sBe a b c d e f) : Nat) : Int) ((botE (sAb a b c d e f) (sBe a b c d e f) : Nat) : Int)) else []
theorem quad_b {a b c d e f : Int} (h : SixF a b c d e f) : ∀ l ∈ quad a b c d e f, ∃ x y z, l = [x, y, z] ∧ 0 ≤ x ∧ x ≤ 40 ∧ 0 ≤ y ∧ y ≤ 40 ∧ 0 ≤ z ∧ z ≤ 40 ∧ x ≤ y + z ∧ y ≤ x + z ∧ z ≤ x + y ∧ (x + y + z) % 2 = 0 := by
  obtain ⟨h1, h2, h3, h4, h5, h6, h7, h8, h9, h10⟩ := h
  intro l hl
  unfold quad at hl
  simp only [List.mem_cons, List.not_mem_nil, or_false] at hl
  rcases hl with rfl | rfl | rfl | rfl
  · exact ⟨_, _, _, rfl, by omega, by omega, by omega, by omega, by omega, by omega, by omega, by omega, by omega, by omega⟩
  · exact ⟨_, _, _, rfl, by omega, by omega, by omega, by omega, by omega, by omega, by omega, by omega, by omega, by omega⟩
  · exact ⟨_, _, _, rfl, by omega, by omega, by omega, by omega, by omega, by omega, by omega, by omega, by omega, by omega⟩
  · exact ⟨_, _, _, rfl, by omega, by omega, by omega, by omega, by omega, by omega, by omega, by omega, by omega, by omega⟩
theorem sAb_lt {a b c d e f : Int} (h : SixF a b c d e f) : ∀ n ∈ sAb a b c d e f, n < 42 := by
  intro n hn
  obtain ⟨l, hl, hn⟩ := List.mem_flatMap.mp hn
  obtain ⟨x, y, z, rfl, _⟩ := quad_b h l hl
  have e : ab3 [x, y, z] = [((x + y - z) / 2).toNat, ((x - y + z) / 2).toNat, ((y + z - x) / 2).toNat] := rfl
  rw [e] at hn
  simp only [List.mem_cons, List.not_mem_nil, or_false] at hn
  omega
theorem sBe_lt {a b c d e f : Int} (h : SixF a b c d e f) : ∀ n ∈ sBe a b c d e f, n < 62 := by
  intro n hn
  obtain ⟨l, hl, rfl⟩ := List.mem_map.mp hn
  obtain ⟨x, y, z, rfl, _⟩ := quad_b h l hl
  show ((x + y + z) / 2 + 1).toNat < 62
  omega
theorem sAb_len (a b c d e f : Int) : (sAb a b c d e f).length = 12 := rfl
theorem sBe_len (a b c d e f : Int) : (sBe a b c d e f).length = 4 := rfl
theorem fit_six {a b c d e f : Int} (h : SixF a b c d e f) : Fit (botE (sAb a b c d e f) (sBe a b c d e f)) 2000 200 (rootL (sAb a b c d e f) (sBe a b c d e f)) := by
  refine fit_abs (rootE_sqF _ _).pos (topE_pos _ _) (botE_pos _ _) (topE_cop _ _) ?_ (rootE_lt _ _)
  exact Nat.lt_of_le_of_lt (topE_le fun n hn => by have := sAb_lt h n hn; omega) (Nat.lt_of_lt_of_le (prodF_lt2' (sAb_lt h)) (Nat.pow_le_pow_right (by decide) (by rw [sAb_len]; decide)))
theorem botS_lt {a b c d e f : Int} (h : SixF a b c d e f) : botE (sAb a b c d e f) (sBe a b c d e f) < 2 ^ 1500 :=
  Nat.lt_of_le_of_lt (botE_le fun n hn => by have := sBe_lt h n hn; omega) (Nat.lt_of_lt_of_le (prodF_lt (sBe_lt h)) (Nat.pow_le_pow_right (by decide) (by rw [sBe_len]; decide)))
theorem get4 {H : Hp} {t1 t2 t3 t4 : Addr} {a b c d e g : Int} (q1 : H t1 = some (iv [a, b, c])) (q2 : H t2 = some (iv [a, e, g])) (q3 : H t3 = some (iv [d, b, g])) (q4 : H t4 = some (iv [d, e, c])) (i : Nat) (x : V) (hx : ([.ref t1, .ref t2, .ref t3, .ref t4] : List V)[i]? = some x) : ∃ u l, x = .ref u ∧ H u = some (iv l) ∧ (quad a b c d e g)[i]? = some l := by
  match i, hx with
  | 0, hx => exact ⟨t1, _, (Option.some.inj hx).symm, q1, rfl⟩
  | 1, hx => exact ⟨t2, _, (Option.some.inj hx).symm, q2, rfl⟩
  | 2, hx => exact ⟨t3, _, (Option.some.inj hx).symm, q3, rfl⟩
  | 3, hx => exact ⟨t4, _, (Option.some.inj hx).symm, q4, rfl⟩
  | n + 4, hx => cases hx
section
variable {P : Program} {w : World} {K : PySem.W.Frag} {mg : Str → Option Value} {base : Heap} {f : Addr} {fd : FuncData} {C fI fQ : Addr}
/-! ### six_number -/
abbrev nSixN : List Str := ["sizes", "triangles", "above", "below", "x", "y", "z"]
end
end TC
namespace TC
set_option exponentiation.threshold 20000
open PySem PySem.Spec PyProof.Rows L2 TCA TCX
def pairsL (l : List Int) : List (Int × Int) := l.map fun x => (x, 1)
theorem six_len1 (a b c d e f : Int) : (sixL a b c d e f).length ≤ 1 := by
  unfold sixL oneQ
  split
  · split
    · decide
    · exact Nat.le_refl 1
  · decide
end TC
namespace TC
open PySem PySem.Spec PyProof.Rows L2 TCA TCX
theorem third_ok {a b h d : Int} (a0 : 0 ≤ a) (a1 : a ≤ h) (b0 : 0 ≤ b) (b1 : b ≤ h) (hd : d ∈ thirdL a b h) : 0 ≤ d ∧ d ≤ h ∧ canB a b d = true := by
  unfold thirdL at hd
  rw [if_neg (by split <;> omega), List.append_nil, fitL_mem] at hd
  rw [← fits_can]
  exact ⟨hd.1, by omega, hd.2.2⟩
def dL (b f e c : Int) (k : Nat) : List Int := ((List.range k).map fun i => (0 : Int) + (i : Nat)).filter fun d => fitsB d b f && fitsB d e c
theorem dL_succ (b f e c : Int) (k : Nat) : dL b f e c (k + 1) = dL b f e c k ++ (if (fitsB (0 + (k : Nat)) b f && fitsB (0 + (k : Nat)) e c) = true then [0 + ((k : Nat) : Int)] else []) := by
  unfold dL
  rw [List.range_succ, List.map_append, List.filter_append]
  congr 1
  simp only [List.map_cons, List.map_nil, List.filter_cons, List.filter_nil]
theorem dL_len (b f e c : Int) (k : Nat) : (dL b f e c k).length ≤ k := by
  unfold dL
  refine Nat.le_trans (List.length_filter_le _ _) ?_
  rw [List.length_map, List.length_range]
  exact Nat.le_refl _
theorem dL_mem {b f e c x : Int} {k : Nat} (h : x ∈ dL b f e c k) : 0 ≤ x ∧ x < k := by
  unfold dL at h
  rw [List.mem_filter, List.mem_map] at h
  obtain ⟨⟨i, hi, rfl⟩, _⟩ := h
  have := List.mem_range.mp hi
  omega
theorem ints_eqv_nil (L : List Int) : PyData.eqv (.list (dInts L)) (.list []) = decide (L = []) := ints_eqv L []
theorem ints_shaped (L : List Int) : SeqAt.shaped (.list (dInts L)) = true := by
  obtain ⟨a1, a2⟩ := ints_lay L
  show (PyData.canLayAll0 (dInts L) && decide (PyData.depthAll (dInts L) + 1 ≤ 64)) = true
  rw [a1, decide_eq_true (by omega)]
  rfl
theorem pickI (vs : List Int) {d : Int} (h0 : 0 ≤ d) (h1 : d < vs.length) : ∃ v, v ∈ vs ∧ atI (vs.map V.int) d = some (.int v) := by
  have hk : d.toNat < vs.length := by omega
  refine ⟨vs[d.toNat], List.getElem_mem hk, ?_⟩
  have z := atI_nat (xs := vs.map V.int) (j := d.toNat) (v := .int vs[d.toNat]) (by rw [List.getElem?_map]; simp [hk])
  have e : ((d.toNat : Nat) : Int) = d := by omega
  rw [e] at z
  exact z
section
variable {P : Program} {w : World} {K : PySem.W.Frag} {mg : Str → Option Value} {base : Heap} {f fD fT fF fZ : Addr} {fd fdD fdT fdF fdZ : FuncData}
/-! ### _law_six_sizes -/
def In (h : Int) (l : List Int) : Prop := ∀ x ∈ l, 0 ≤ x ∧ x ≤ h
abbrev nSix : List Str := ["_law_pen_here", "_law_high", "_law_a", "_law_b", "_law_c", "_law_f", "_law_e", "_law_some", "_law_d"]
end
end TC
namespace TC
open PySem PySem.Spec PyProof.Rows L2 TCA
theorem add_frac (p u : Rat) : Rat.divInt (p.num * (u.den : Int) + u.num * (p.den : Int)) ((p.den : Int) * (u.den : Int)) = p + u := by
  have h1 : (p.den : Int) ≠ 0 := by
    have := p.den_pos
    omega
  have h2 : (u.den : Int) ≠ 0 := by
    have := u.den_pos
    omega
  have z := Rat.divInt_add_divInt p.num u.num h1 h2
  rw [Rat.num_divInt_den, Rat.num_divInt_den] at z
  exact z.symm
theorem neg_frac (p : Rat) : Rat.divInt (p.num * -1) ((p.den : Int) * 1) = -p := by
  have z := Rat.num_divInt_den (-p)
  rw [Rat.neg_num, Rat.neg_den] at z
  rw [← z, Int.mul_one]
  congr 1
  omega
theorem natabs_mul_lt {i j : Int} {A B : Nat} (h1 : i.natAbs < 2 ^ A) (h2 : j.natAbs < 2 ^ B) : (i * j).natAbs < 2 ^ (A + B) := wide_lt h1 h2
theorem lowL_fra {t b : Int} {q : Rat} (hb : b ≠ 0) (e : Rat.divInt t b = q) : (HO.tup [.int (TCM.lowL t b).1, .int (TCM.lowL t b).2]) = fraV q := by
  rw [TCR.lowL_rat t b hb, e]
  rfl
set_option exponentiation.threshold 2000 in
theorem lt1000 {n : Int} {A : Nat} (h : n.natAbs < 2 ^ A) (hA : A ≤ 1000) : n.natAbs < 2 ^ 1000 := Nat.lt_of_lt_of_le h (Nat.pow_le_pow_right (by decide) hA)
section
variable {P : Program} {w : World} {K : PySem.W.Frag} {mg : Str → Option Value} {base : Heap} {f : Addr} {fd : FuncData} {C fI fQ : Addr}
/-! ### _law_sum -/
def spSum : Sp := fun vs H Q _ => ∃ (d1 d2 : Addr) (k1 k2 : List Int) (g1 g2 : Int → Rat) (A B : Nat), vs = [.ref d1, .ref d2] ∧ DictAt H d1 k1 g1 ∧ DictAt H d2 k2 g2 ∧ (∀ r, TCR.Sz A (g1 r)) ∧ (∀ r, TCR.Sz B (g2 r)) ∧ 0 < A ∧ 0 < B ∧ A + B ≤ 8000 ∧ k1.length + k2.length ≤ 900 ∧
  ∀ d' ks' H', Same H H' → H d' = none → DictAt H' d' ks' (fun r => g1 r + g2 r) → Clear ks' (fun r => g1 r + g2 r) → ks'.length ≤ k1.length + k2.length → (∀ r ∈ ks', r ∈ k1 ∨ r ∈ k2) → Q (.ref d') H'
end
end TC
namespace TC
open PySem PySem.Spec PyProof.Rows L2 TCA
theorem DictAt.lock {H : Hp} {d p : Addr} {o : HO} {kv : List (Key × V)} {ks : List Int} {g : Int → Rat} (e : H d = some (.dK kv)) (n : p ≠ d) (h : DictAt H p ks g) : DictAt (upd H d o) p ks g := by
  obtain ⟨kvs, h1, h2, h3, h4, h5⟩ := h
  refine ⟨kvs, by rw [upd_ne n]; exact h1, h2, fun r hr => ?_, h4, h5⟩
  obtain ⟨u, u1, u2⟩ := h3 r hr
  exact ⟨u, u1, by
    rw [upd_ne fun z => by
      rw [z, e] at u2
      cases u2]
    exact u2⟩
theorem DictAt.lockF {H : Hp} {d p : Addr} {o u0 : HO} {od : Obj} {ks : List Int} {g : Int → Rat} (e : H d = some (.frz od u0)) (n : p ≠ d) (h : DictAt H p ks g) : DictAt (upd H d o) p ks g := by
  obtain ⟨kvs, h1, h2, h3, h4, h5⟩ := h
  refine ⟨kvs, by rw [upd_ne n]; exact h1, h2, fun r hr => ?_, h4, h5⟩
  obtain ⟨u, u1, u2⟩ := h3 r hr
  exact ⟨u, u1, by
    rw [upd_ne fun z => by
      rw [z, e] at u2
      cases u2]
    exact u2⟩
section
variable {P : Program} {w : World} {K : PySem.W.Frag} {mg : Str → Option Value} {base : Heap} {f : Addr} {fd : FuncData} {C fI fQ : Addr}
/-! ### _law_common -/
def spCommon : Sp := fun vs H Q _ => ∃ r s : Int, vs = [.int r, .int s] ∧ 0 ≤ r ∧ 0 ≤ s ∧ Q (.int (gR r s)) H
/-! ### _law_product -/
def spProduct : Sp := fun vs H Q _ => ∃ (d1 d2 : Addr) (k1 k2 : List Int) (g1 g2 : Int → Rat) (D1 D2 A1 A2 B1 B2 R : Nat), vs = [.ref d1, .ref d2] ∧ d1 ≠ d2 ∧ DictAt H d1 k1 g1 ∧ DictAt H d2 k2 g2 ∧
  (∀ r, (g1 r).den ∣ D1) ∧ (∀ r, (g2 r).den ∣ D2) ∧ 0 < D1 ∧ 0 < D2 ∧ D1 < 2 ^ B1 ∧ D2 < 2 ^ B2 ∧ (∀ r, (g1 r).num.natAbs < 2 ^ A1) ∧ (∀ r, (g2 r).num.natAbs < 2 ^ A2) ∧ 0 < A1 ∧ 0 < A2 ∧ 0 < B1 ∧ 0 < B2 ∧ 0 < R ∧
  A1 + B1 + (A2 + B2) + R ≤ 3900 ∧ (∀ r ∈ k1, 0 < r ∧ r.natAbs < 2 ^ R) ∧ (∀ r ∈ k2, 0 < r ∧ r.natAbs < 2 ^ R) ∧ k1.length * k2.length ≤ 800 ∧
  ∀ d ks H', Same H H' → H d = none → DictAt H' d ks (prodG k1 k2 g1 g2) → Clear ks (prodG k1 k2 g1 g2) → ks.length ≤ k1.length * k2.length → (∀ u ∈ ks, ∃ r ∈ k1, ∃ s ∈ k2, u = mulR r s) → Q (.ref d) H'
end
end TC
namespace TCX
theorem nat_rat (n : Nat) : (((n : Nat) : Int) : Rat) = (n : Rat) := rfl
theorem divInt_nat (a b : Nat) : Rat.divInt (a : Int) (b : Int) = (a : Rat) / (b : Rat) := by
  rw [Rat.div_def, ← nat_rat a, ← nat_rat b]
  rw [Rat.divInt_eq_div, Rat.div_def]
theorem frac_pos {a b : Nat} (ha : 0 < a) (hb : 0 < b) : 0 < Rat.divInt (a : Int) (b : Int) := by
  rw [divInt_nat, Rat.div_def]
  exact Rat.mul_pos (pos_nat ha) (Rat.inv_pos.mpr (pos_nat hb))
/-- the fraction and the root that root_of_factorials tells -/
theorem rootE_rt {ab be : List Nat} (h1 : ∀ n ∈ ab, n < 123) (h2 : ∀ n ∈ be, n < 123) : IsRt (rootE ab be) (Rat.divInt ((topE ab be : Nat) : Int) ((botE ab be : Nat) : Int)) ((prodF ab : Rat) / (prodF be : Rat)) := by
  have e := rootE_ok h1 h2
  have t0 := topE_pos ab be
  have b0 := botE_pos ab be
  have p0 : 0 < prodF be := by
    rw [prodF_leg h2]
    exact powP_pos pr30_p
  refine ⟨rootE_sqF ab be, frac_pos t0 b0, ?_⟩
  rw [divInt_nat]
  have n1 := ne_of_pos (pos_nat b0)
  have n2 := ne_of_pos (pos_nat p0)
  have e' : ((botE ab be * botE ab be * prodF ab : Nat) : Rat) = ((topE ab be * topE ab be * rootE ab be * prodF be : Nat) : Rat) := by rw [e]
  simp only [Rat.natCast_mul] at e'
  generalize (botE ab be : Rat) = x at *
  generalize (topE ab be : Rat) = y at *
  generalize (rootE ab be : Rat) = z at *
  generalize (prodF ab : Rat) = u at *
  generalize (prodF be : Rat) = v at *
  grind
/-- .. and that the trial by squares tells -/
theorem sq_rt {up un sq fr : Nat} (e : up * un = sq * sq * fr) (hf : SqF fr) (hs : 0 < sq) (hu : 0 < un) : IsRt fr (Rat.divInt (sq : Int) (un : Int)) ((up : Rat) / (un : Rat)) := by
  refine ⟨hf, frac_pos hs hu, ?_⟩
  rw [divInt_nat]
  have n1 := ne_of_pos (pos_nat hu)
  have e' : ((up * un : Nat) : Rat) = ((sq * sq * fr : Nat) : Rat) := by rw [e]
  simp only [Rat.natCast_mul] at e'
  generalize (sq : Rat) = x at *
  generalize (un : Rat) = y at *
  generalize (up : Rat) = z at *
  generalize (fr : Rat) = u at *
  grind
end TCX
namespace TC
set_option exponentiation.threshold 20000
open PySem PySem.Spec PyProof.Rows L2 TCA TCX
def LLi (ts os : List Int) (k : Int) : List Int := (ts.map fun t => k - t) ++ os.map fun o => o - k
section
variable {P : Program} {w : World} {K : PySem.W.Frag} {mg : Str → Option Value} {base : Heap} {f : Addr} {fd : FuncData} {C fI fQ : Addr}
/-! ### _law_six_terms -/
abbrev nSixTermsL : List Str := ["_law_sizes_here", "_law_lows", "_law_highs", "_law_found", "_law_k", "_law_under", "_law_n", "_law_low_here", "_law_high"]
end
end TC
namespace TC
set_option exponentiation.threshold 20000
open PySem PySem.Spec PyProof.Rows L2 TCA TCX
theorem mulR_nat (x y : Nat) : mulR (x : Int) (y : Int) = ((x / Nat.gcd x y * (y / Nat.gcd x y) : Nat) : Int) := by
  unfold mulR gR
  rw [Int.gcd_natCast_natCast, Int.fdiv_eq_ediv_of_nonneg _ (by omega), Int.fdiv_eq_ediv_of_nonneg _ (by omega), Int.natCast_mul, Int.natCast_ediv, Int.natCast_ediv]
theorem gR_nat (x y : Nat) : gR (x : Int) (y : Int) = ((Nat.gcd x y : Nat) : Int) := by
  unfold gR
  rw [Int.gcd_natCast_natCast]
/-- a fraction times one root, as a function of roots -/
def rtF (F : Nat) (Q : Rat) (r : Int) : Rat := if r = (F : Int) then Q else 0
theorem prod_rt {F F' : Nat} {Q Q' N N' : Rat} (h : IsRt F Q N) (h' : IsRt F' Q' N') {G : Nat} {R : Rat} (hG : IsRt G R (N * N')) : prodG [(F : Int)] [(F' : Int)] (rtF F Q) (rtF F' Q') = rtF G R := by
  funext u
  obtain ⟨e1, e2⟩ := (h.mul h').uniq hG
  show (((if mulR (F : Int) (F' : Int) = u then rtF F Q F * rtF F' Q' F' * ((gR (F : Int) (F' : Int) : Int) : Rat) else 0) + 0) + 0) = rtF G R u
  rw [Rat.add_zero, Rat.add_zero, mulR_nat, gR_nat, e1]
  unfold rtF
  rw [if_pos rfl, if_pos rfl]
  by_cases z : u = (G : Int)
  · rw [if_pos z.symm, if_pos z, ← e2]
    rfl
  · rw [if_neg fun y => z y.symm, if_neg z]
theorem keys_one {H : Hp} {d : Addr} {ks : List Int} {F : Nat} {Q : Rat} (h : DictAt H d ks (rtF F Q)) (hq : Q ≠ 0) (hl : ks.length ≤ 1) : ks = [(F : Int)] := by
  obtain ⟨kvs, h1, h2, h3, h4, h5⟩ := h
  have m : (F : Int) ∈ ks := Classical.byContradiction fun z => hq (by
    have := h5 _ z
    unfold rtF at this
    rw [if_pos rfl] at this
    exact this)
  match ks, m, hl with
  | [x], m, _ => rw [List.mem_singleton.mp m]
theorem rt_num {ab be : List Nat} (h1 : ∀ n ∈ ab, n < 123) (h2 : ∀ n ∈ be, n < 123) : (Rat.divInt ((topE ab be : Nat) : Int) ((botE ab be : Nat) : Int)).num = (topE ab be : Int) ∧ (Rat.divInt ((topE ab be : Nat) : Int) ((botE ab be : Nat) : Int)).den = botE ab be := rat_cop (botE_pos _ _) (topE_cop _ _)
theorem flat3_lt {a b c d e f : Int} (h : SixF a b c d e f) (i : Nat) : ∀ n ∈ ((quad a b c d e f).take i).flatMap ab3, n < 42 := fun n hn => by
  obtain ⟨l, hl, hn⟩ := List.mem_flatMap.mp hn
  exact sAb_lt h n (List.mem_flatMap.mpr ⟨l, List.mem_of_mem_take hl, hn⟩)
theorem map1_lt {a b c d e f : Int} (h : SixF a b c d e f) (i : Nat) : ∀ n ∈ ((quad a b c d e f).take i).map be1, n < 62 := fun n hn => by
  obtain ⟨l, hl, rfl⟩ := List.mem_map.mp hn
  exact sBe_lt h _ (List.mem_map.mpr ⟨l, List.mem_of_mem_take hl, rfl⟩)
theorem flat3_len {l : List (List Int)} : (l.flatMap ab3).length = 3 * l.length := by
  induction l with
  | nil => rfl
  | cons x l ih =>
    rw [List.flatMap_cons, List.length_append, ih]
    show 3 + _ = 3 * (l.length + 1)
    omega
section
variable {P : Program} {w : World} {K : PySem.W.Frag} {mg : Str → Option Value} {base : Heap} {f : Addr} {fd : FuncData} {C fI fQ : Addr}
/-! ### _law_six -/
abbrev nSixL : List Str := ["_law_sizes_here", "_law_total", "_law_found", "_law_p", "_law_q", "_law_a", "_law_b", "_law_c", "_law_up", "_law_under", "_law_n"]
end
end TC
namespace TC
set_option exponentiation.threshold 20000
open PySem PySem.Spec PyProof.Rows L2 TCA TCX
/-! ### numbers that are a fraction times one root -/
/-- the parts of s times the root of N -/
structure Su (L : List Part) (s N : Rat) : Prop where
  can : TCR.Canon L
  v : ∀ r, TCR.val L r = sv s N r
theorem Su.uniq {L M : List Part} {s N : Rat} (h : Su L s N) (h' : Su M s N) : L = M := TCR.canon_eq h.can h'.can fun r => (h.v r).trans (h'.v r).symm
theorem Su.nil (N : Rat) : Su [] 0 N := ⟨TCR.canon_nil, fun r => (sv_zero N r).symm⟩
theorem Su.zero {L : List Part} {N : Rat} (h : Su L 0 N) : L = [] := h.uniq (Su.nil N)
theorem Su.scale {L : List Part} {s N t : Rat} (hN : 0 < N) (ht : 0 < t) (h : Su L s (N * (t * t))) : Su L (s * t) N := ⟨h.can, fun r => (h.v r).trans (sv_sq s hN ht r)⟩
theorem Su.of {L : List Part} {s N s' N' : Rat} (h : Su L s N) (e : s = s') (e' : N = N') : Su L s' N' := by rw [← e, ← e']; exact h
theorem Su.shape {L : List Part} {s N : Rat} (h : Su L s N) : (L = [] ∧ ∀ F Q, IsRt F Q N → s * Q = 0) ∨ ∀ F Q, IsRt F Q N → L = [((F : Int), s * Q)] ∧ s * Q ≠ 0 := by
  match L, h with
  | [], h =>
    refine .inl ⟨rfl, fun F Q hR => ?_⟩
    have := h.v (F : Int)
    rw [hR.sv, if_pos rfl] at this
    exact this.symm
  | x :: M, h =>
    refine .inr fun F Q hR => ?_
    have hx := h.can.mem (x := x) (by simp)
    have nz := h.can.nz x (by simp)
    have e1 := h.v x.1
    rw [hx, hR.sv] at e1
    have ex : x.1 = (F : Int) := Classical.byContradiction fun z => nz (by rw [e1, if_neg z])
    rw [if_pos ex] at e1
    have em : M = [] := by
      cases M with
      | nil => rfl
      | cons y M =>
        exfalso
        have hy := h.can.mem (x := y) (by simp)
        have nzy := h.can.nz y (by simp)
        have e2 := h.v y.1
        rw [hy, hR.sv] at e2
        have ey : y.1 = (F : Int) := Classical.byContradiction fun z => nzy (by rw [e2, if_neg z])
        have lt := (List.pairwise_cons.mp h.can.srt).1 y (by simp)
        omega
    subst em
    obtain ⟨x1, x2⟩ := x
    dsimp only at ex e1 nz
    subst ex e1
    exact ⟨rfl, nz⟩
theorem Su.len {L : List Part} {s N : Rat} (h : Su L s N) (hN : 0 < N) : L.length ≤ 1 := by
  rcases h.shape with ⟨rfl, _⟩ | h
  · decide
  · rw [(h _ _ (rt_ok hN)).1]
    exact Nat.le_refl 1
/-- .. with bounds: s is a / b, N is p / q -/
def SuB (L : List Part) (s N : Rat) (A B : Nat) : Prop := Su L s N ∧ ∃ (a : Int) (b p q : Nat), s = Rat.divInt a (b : Int) ∧ N = (p : Rat) / (q : Rat) ∧ 0 < b ∧ 0 < p ∧ 0 < q ∧ a.natAbs < 2 ^ A ∧ b < 2 ^ A ∧ p < 2 ^ B ∧ q < 2 ^ B
theorem quot_pos {p q : Nat} (hp : 0 < p) (hq : 0 < q) : 0 < (p : Rat) / (q : Rat) := by
  rw [Rat.div_def]
  exact Rat.mul_pos (pos_nat hp) (Rat.inv_pos.mpr (pos_nat hq))
theorem SuB.pos {L : List Part} {s N : Rat} {A B : Nat} (h : SuB L s N A B) : 0 < N := by
  obtain ⟨_, a, b, p, q, _, e, _, p0, q0, _⟩ := h
  rw [e]
  exact quot_pos p0 q0
theorem SuB.len {L : List Part} {s N : Rat} {A B : Nat} (h : SuB L s N A B) : L.length ≤ 1 := h.1.len h.pos
theorem divInt_mul_nat {a c : Int} {b d : Nat} : Rat.divInt a (b : Int) * Rat.divInt c (d : Int) = Rat.divInt (a * c) ((b * d : Nat) : Int) := by
  rw [Rat.divInt_mul_divInt, Int.natCast_mul]
theorem SuB.fit {L : List Part} {s N : Rat} {A B : Nat} (h : SuB L s N A B) : ∃ D : Nat, 0 < D ∧ D < 2 ^ (A + B) ∧ Fit D (A + (B + B)) (B + B) L := by
  obtain ⟨hS, a, b, p, q, e1, e2, b0, p0, q0, al, bl, pl, ql⟩ := h
  refine ⟨b * q, Nat.mul_pos b0 q0, ?_, ?_⟩
  · rw [Nat.pow_add]
    exact Nat.mul_lt_mul'' bl ql
  obtain ⟨sq, f, s0, hf, e⟩ := sq_part (p * q) (Nat.mul_pos p0 q0)
  have R := sq_rt e hf s0 q0
  rw [← e2] at R
  have pq : p * q < 2 ^ (B + B) := by
    rw [Nat.pow_add]
    exact Nat.mul_lt_mul'' pl ql
  have fl : f < 2 ^ (B + B) := Nat.lt_of_le_of_lt (by rw [e]; exact Nat.le_mul_of_pos_left _ (Nat.mul_pos s0 s0)) pq
  have sl : sq < 2 ^ (B + B) := Nat.lt_of_le_of_lt (by rw [e]; exact Nat.le_trans (Nat.le_mul_of_pos_right _ s0) (Nat.le_mul_of_pos_right _ hf.pos)) pq
  rcases hS.shape with ⟨rfl, _⟩ | h
  · exact ⟨TCR.canon_nil, (fun x hx => by cases hx), (fun x hx => by cases hx), (fun x hx => by cases hx)⟩
  obtain ⟨eL, nz⟩ := h _ _ R
  have eq : s * Rat.divInt (sq : Int) (q : Int) = Rat.divInt (a * sq) ((b * q : Nat) : Int) := by rw [e1, divInt_mul_nat]
  have bq : 0 < b * q := Nat.mul_pos b0 q0
  refine ⟨hS.can, fun x hx => ?_, fun x hx => ?_, fun x hx => ?_⟩ <;> rw [eL] at hx <;> rw [List.mem_singleton.mp hx]
  · show (s * Rat.divInt (sq : Int) (q : Int)).den ∣ b * q
    rw [eq]
    exact den_divInt bq
  · show (s * Rat.divInt (sq : Int) (q : Int)).num.natAbs < 2 ^ (A + (B + B))
    rw [eq]
    have lo := (TCM.low_abs (a * (sq : Int)) ((b * q : Nat) : Int) (by omega)).1
    rw [TCR.low_rat _ _ (by omega)] at lo
    exact Nat.lt_of_le_of_lt lo (wide_lt al (nat_bits sl))
  · have := hf.pos
    exact ⟨by show (0 : Int) < (f : Int); omega, by show ((f : Nat) : Int).natAbs < _; rw [Int.natAbs_natCast]; exact fl⟩
theorem SuB.mk' {L : List Part} {s N : Rat} (h : Su L s N) {A B : Nat} {a : Int} {b p q : Nat} (e1 : s = Rat.divInt a (b : Int)) (e2 : N = (p : Rat) / (q : Rat)) (b0 : 0 < b) (p0 : 0 < p) (q0 : 0 < q) (al : a.natAbs < 2 ^ A) (bl : b < 2 ^ A) (pl : p < 2 ^ B) (ql : q < 2 ^ B) : SuB L s N A B :=
  ⟨h, a, b, p, q, e1, e2, b0, p0, q0, al, bl, pl, ql⟩
theorem SuB.mono {L : List Part} {s N : Rat} {A B A' B' : Nat} (h : SuB L s N A B) (hA : A ≤ A') (hB : B ≤ B') : SuB L s N A' B' := by
  obtain ⟨hS, a, b, p, q, e1, e2, b0, p0, q0, al, bl, pl, ql⟩ := h
  have x := Nat.pow_le_pow_right (show 0 < 2 by decide) hA
  have y := Nat.pow_le_pow_right (show 0 < 2 by decide) hB
  exact ⟨hS, a, b, p, q, e1, e2, b0, p0, q0, by omega, by omega, by omega, by omega⟩
theorem cov_can {L : List Part} (h : TCR.Canon L) : Cov (TCR.val L) (L.map (·.1)) := by
  refine ⟨?_, fun r hr => ?_⟩
  · refine List.pairwise_map.mpr (h.srt.imp fun {a b} z => ?_)
    omega
  · obtain ⟨q, hq⟩ := h.val_ne.mp hr
    exact List.mem_map.mpr ⟨_, hq, rfl⟩
/-- products -/
theorem Su.times {L M K : List Part} {s s' N N' : Rat} (h : Su L s N) (h' : Su M s' N') (hN : 0 < N) (hN' : 0 < N') (cK : TCR.Canon K) (hv : ∀ u, TCR.val K u = prodG (L.map (·.1)) (M.map (·.1)) (TCR.val L) (TCR.val M) u) : Su K (s * s') (N * N') := by
  refine ⟨cK, fun u => ?_⟩
  have R := rt_ok hN
  have R' := rt_ok hN'
  have R2 := R.mul R'
  have c1 : Cov (TCR.val L) [((rF N : Nat) : Int)] := ⟨by simp, fun r hr => by
    rw [h.v, R.sv] at hr
    exact List.mem_singleton.mpr (Classical.byContradiction fun z => hr (if_neg z))⟩
  have c2 : Cov (TCR.val M) [((rF N' : Nat) : Int)] := ⟨by simp, fun r hr => by
    rw [h'.v, R'.sv] at hr
    exact List.mem_singleton.mpr (Classical.byContradiction fun z => hr (if_neg z))⟩
  rw [hv u, prodG_supp (cov_can h.can) c1 (cov_can h'.can) c2 u, R2.sv]
  show (((if mulR ((rF N : Nat) : Int) ((rF N' : Nat) : Int) = u then TCR.val L ((rF N : Nat) : Int) * TCR.val M ((rF N' : Nat) : Int) * ((gR ((rF N : Nat) : Int) ((rF N' : Nat) : Int) : Int) : Rat) else 0) + 0) + 0) = _
  rw [Rat.add_zero, Rat.add_zero, mulR_nat, gR_nat, h.v, h'.v, R.sv, R'.sv, if_pos rfl, if_pos rfl]
  by_cases z : u = ((rF N / Nat.gcd (rF N) (rF N') * (rF N' / Nat.gcd (rF N) (rF N')) : Nat) : Int)
  · rw [if_pos z.symm, if_pos z]
    show s * rQ N * (s' * rQ N') * ((Nat.gcd (rF N) (rF N') : Nat) : Rat) = s * s' * (rQ N * rQ N' * ((Nat.gcd (rF N) (rF N') : Nat) : Rat))
    grind
  · rw [if_neg fun y => z y.symm, if_neg z]
theorem SuB.times {L M K : List Part} {s s' N N' : Rat} {A B A' B' : Nat} (h : SuB L s N A B) (h' : SuB M s' N' A' B') (cK : TCR.Canon K) (hv : ∀ u, TCR.val K u = prodG (L.map (·.1)) (M.map (·.1)) (TCR.val L) (TCR.val M) u) : SuB K (s * s') (N * N') (A + A') (B + B') := by
  have S := h.1.times h'.1 h.pos h'.pos cK hv
  obtain ⟨_, a, b, p, q, e1, e2, b0, p0, q0, al, bl, pl, ql⟩ := h
  obtain ⟨_, a', b', p', q', e1', e2', b0', p0', q0', al', bl', pl', ql'⟩ := h'
  refine ⟨S, a * a', b * b', p * p', q * q', ?_, ?_, Nat.mul_pos b0 b0', Nat.mul_pos p0 p0', Nat.mul_pos q0 q0', wide_lt al al', ?_, ?_, ?_⟩
  · rw [e1, e1', divInt_mul_nat]
  · rw [e2, e2', Rat.natCast_mul, Rat.natCast_mul]
    have n1 := ne_of_pos (pos_nat q0)
    have n2 := ne_of_pos (pos_nat q0')
    generalize (p : Rat) = x1
    generalize (q : Rat) = x2 at *
    generalize (p' : Rat) = x3
    generalize (q' : Rat) = x4 at *
    grind
  · rw [Nat.pow_add]; exact Nat.mul_lt_mul'' bl bl'
  · rw [Nat.pow_add]; exact Nat.mul_lt_mul'' pl pl'
  · rw [Nat.pow_add]; exact Nat.mul_lt_mul'' ql ql'
/-- sums over one root -/
theorem Su.plus {L M K : List Part} {s s' N : Rat} (h : Su L s N) (h' : Su M s' N) (cK : TCR.Canon K) (hv : ∀ r, TCR.val K r = TCR.val L r + TCR.val M r) : Su K (s + s') N :=
  ⟨cK, fun r => by rw [hv r, h.v, h'.v, sv_add]⟩
theorem SuB.plus {L M K : List Part} {s s' N : Rat} {A B A' B' : Nat} (h : SuB L s N A B) (h' : SuB M s' N A' B') (cK : TCR.Canon K) (hv : ∀ r, TCR.val K r = TCR.val L r + TCR.val M r) : SuB K (s + s') N (A + A' + 1) B := by
  have S := h.1.plus h'.1 cK hv
  obtain ⟨_, a, b, p, q, e1, e2, b0, p0, q0, al, bl, pl, ql⟩ := h
  obtain ⟨_, a', b', p', q', e1', e2', b0', p0', q0', al', bl', pl', ql'⟩ := h'
  have hb : ((b : Nat) : Int).natAbs < 2 ^ A := by rw [Int.natAbs_natCast]; exact bl
  have hb' : ((b' : Nat) : Int).natAbs < 2 ^ A' := by rw [Int.natAbs_natCast]; exact bl'
  have w1 := wide_lt al hb'
  have w2 := wide_lt hb al'
  refine ⟨S, a * b' + b * a', b * b', p, q, ?_, e2, Nat.mul_pos b0 b0', p0, q0, ?_, ?_, pl, ql⟩
  · rw [e1, e1', Rat.divInt_add_divInt _ _ (by omega) (by omega), Int.natCast_mul]
    congr 1
    grind
  · have := Int.natAbs_add_le (a * (b' : Int)) ((b : Int) * a')
    rw [Nat.pow_succ]
    omega
  · have := Nat.mul_lt_mul'' bl bl'
    rw [← Nat.pow_add] at this
    rw [Nat.pow_succ]
    omega
/-- what exact makes -/
theorem su_exact {t b r : Int} (hr : RootOk r) (r0 : 0 < r) (hb : b ≠ 0) (hi : SqF (TCM.sqOut r).2.1.toNat) (he : (TCM.sqOut r).1 * (TCM.sqOut r).1 * (TCM.sqOut r).2.1 = r) (i0 : 0 < (TCM.sqOut r).2.1) (o0 : 0 < (TCM.sqOut r).1) : Su (exL t b r) (Rat.divInt t b) (r : Rat) := by
  obtain ⟨o, ho⟩ : ∃ o : Nat, (TCM.sqOut r).1 = (o : Int) := ⟨(TCM.sqOut r).1.toNat, by omega⟩
  obtain ⟨i, hi'⟩ : ∃ i : Nat, (TCM.sqOut r).2.1 = (i : Int) := ⟨(TCM.sqOut r).2.1.toNat, by omega⟩
  rw [hi', Int.toNat_natCast] at hi
  rw [ho, hi'] at he
  have R : IsRt i (o : Rat) (r : Rat) := by
    refine ⟨hi, pos_nat (by omega), ?_⟩
    rw [← he]
    rw [Rat.intCast_mul, Rat.intCast_mul]
    rfl
  have ex : exL t b r = oneL (i : Int) (t * (o : Int)) b := by
    unfold exL
    rw [ho, hi']
  have eq : Rat.divInt (t * (o : Int)) b = Rat.divInt t b * (o : Rat) := by
    have z : ((o : Nat) : Rat) = Rat.divInt (o : Int) 1 := (Rat.num_divInt_den (((o : Nat) : Int) : Rat)).symm
    rw [z, Rat.divInt_mul_divInt, Int.mul_one]
  rw [ex]
  unfold oneL
  by_cases ht : t * (o : Int) = 0
  · rw [if_pos ht]
    have t0 : t = 0 := by
      rcases Int.mul_eq_zero.mp ht with z | z
      · exact z
      · omega
    rw [t0, Rat.zero_divInt]
    exact Su.nil _
  · rw [if_neg ht]
    refine ⟨TCR.canon_one (divInt_ne hb ht), fun u => ?_⟩
    rw [val_one, R.sv, eq]
theorem su_int {t b : Int} (hb : b ≠ 0) : Su (exL t b 1) (Rat.divInt t b) 1 := by
  have e : TCM.sqOut 1 = (1, 1, 1) := by decide +kernel
  have := su_exact (t := t) (b := b) (r := 1) root_ok1 (by decide) hb (by rw [e]; exact SqF.one) (by rw [e]; decide) (by rw [e]; decide) (by rw [e]; decide)
  exact this
theorem sub_int {t : Int} {b : Nat} {A : Nat} (hb : 0 < b) (ht : t.natAbs < 2 ^ A) (hb' : b < 2 ^ A) : SuB (exL t (b : Int) 1) (Rat.divInt t (b : Int)) 1 A 1 :=
  ⟨su_int (by omega), t, b, 1, 1, rfl, by decide +kernel, hb, by decide, by decide, ht, hb', by decide, by decide⟩
/-! ### the program's numbers so -/
theorem FnOk.imp {P : Program} {w : World} {K : PySem.W.Frag} {mg : Str → Option Value} {base : Heap} {CX : CXT} {k : Nat} {f : Addr} {fd : FuncData} {ps : List Str} {sp sp' : Sp} (F : FnOk P w K mg base CX k f fd ps sp) (h : ∀ vs H Q E, sp' vs H Q E → sp vs H Q E) : FnOk P w K mg base CX k f fd ps sp' :=
  ⟨fun vs H Q E x => F.len vs H Q E (h _ _ _ _ x), fun A outer s H args us vs Q E hr he hb hv hs => F.run A outer s H args us vs Q E hr he hb hv (h _ _ _ _ hs)⟩
def spTimesS (C : Addr) : Sp := fun vs H Q _ => ∃ (x y : Addr) (L M : List Part) (s s' N N' : Rat) (A B A' B' : Nat), vs = [.ref x, .ref y] ∧ NumAt C H x L ∧ NumAt C H y M ∧ SuB L s N A B ∧ SuB M s' N' A' B' ∧ A + B + A' + B' ≤ 2000 ∧
  ∀ z K H', Same H H' → H z = none → NumAt C H' z K → SuB K (s * s') (N * N') (A + A') (B + B') → Q (.ref z) H'
theorem timesS {C : Addr} : ∀ vs H Q E, spTimesS C vs H Q E → spTimes C vs H Q E := fun vs H Q E h => by
  obtain ⟨x, y, L, M, s, s', N, N', A, B, A', B', e, h1, h2, S1, S2, bd, q⟩ := h
  obtain ⟨D1, d1, dl1, F1⟩ := (S1.mono (Nat.le_succ A) (Nat.le_succ B)).fit
  obtain ⟨D2, d2, dl2, F2⟩ := (S2.mono (Nat.le_succ A') (Nat.le_succ B')).fit
  have l1 := S1.len
  have l2 := S2.len
  have up : ∀ {D a r R : Nat} {L : List Part}, Fit D a r L → r ≤ R → Fit D a R L := fun h hr => ⟨h.can, h.den, h.num, fun x hx => ⟨(h.pos x hx).1, Nat.lt_of_lt_of_le (h.pos x hx).2 (Nat.pow_le_pow_right (by decide) hr)⟩⟩
  refine ⟨x, y, L, M, D1, D2, _, _, _, _, (B + 1 + (B + 1)) + (B' + 1 + (B' + 1)), e, h1, h2, up F1 (by omega), up F2 (by omega), d1, d2, dl1, dl2, by omega, by omega, by omega, by omega, by omega, by omega, by omega, by omega, by omega, by omega, ?_, fun z K H' sm hz hK fK vK lK => q z K H' sm hz hK (S1.times S2 fK.can vK)⟩
  have := Nat.mul_le_mul l1 l2
  omega
def spPlusS (C : Addr) : Sp := fun vs H Q _ => ∃ (x y : Addr) (L M : List Part) (s s' N : Rat) (A B A' B' : Nat), vs = [.ref x, .ref y] ∧ NumAt C H x L ∧ NumAt C H y M ∧ SuB L s N A B ∧ SuB M s' N A' B' ∧ A + B + A' + B' ≤ 2000 ∧
  ∀ z K H', Same H H' → H z = none → NumAt C H' z K → SuB K (s + s') N (A + A' + 1) B → Q (.ref z) H'
theorem fit_good {D A R G : Nat} {L : List Part} (h : Fit D A R L) (hD : D < 2 ^ G) (hA : A ≤ G) (d0 : 0 < D) : Good G L := ⟨h.can, fun x hx => ⟨Nat.lt_of_lt_of_le (h.num x hx) (Nat.pow_le_pow_right (by decide) hA), Nat.lt_of_le_of_lt (Nat.le_of_dvd d0 (h.den x hx)) hD⟩⟩
theorem plusS {C : Addr} : ∀ vs H Q E, spPlusS C vs H Q E → spPlus C vs H Q E := fun vs H Q E h => by
  obtain ⟨x, y, L, M, s, s', N, A, B, A', B', e, h1, h2, S1, S2, bd, q⟩ := h
  obtain ⟨D1, d1, dl1, F1⟩ := (S1.mono (Nat.le_succ A) (Nat.le_succ B)).fit
  obtain ⟨D2, d2, dl2, F2⟩ := (S2.mono (Nat.le_succ A') (Nat.le_succ B')).fit
  have l1 := S1.len
  have l2 := S2.len
  refine ⟨x, y, L, M, A + 1 + (B + 1 + (B + 1)), A' + 1 + (B' + 1 + (B' + 1)), e, h1, h2, fit_good F1 (Nat.lt_of_lt_of_le dl1 (Nat.pow_le_pow_right (by decide) (by omega))) (Nat.le_refl _) d1, fit_good F2 (Nat.lt_of_lt_of_le dl2 (Nat.pow_le_pow_right (by decide) (by omega))) (Nat.le_refl _) d2, by omega, by omega, by omega, by omega, fun z K H' sm hz hK gK vK lK => q z K H' sm hz hK (S1.plus S2 gK.1 vK)⟩
/-- joined numbers -/
def jN (a u b v c w : Int) : Rat := (prodF (jAb a u b v c w) : Rat) / (prodF (jBe a b c) : Rat)
theorem su_joined {a u b v c w : Int} (h1 : PairP a u) (h2 : PairP b v) (h3 : PairP c w) (J : JoinP a b c u v w) : Su (joinL a u b v c w) ((jSum a u b v c : Int) : Rat) (jN a u b v c w) := by
  have la := jAb_lt h1 h2 h3
  have lb := jBe_lt h1 h2 h3
  have R := rootE_rt (ab := jAb a u b v c w) (be := jBe a b c) (fun n hn => by have := la n hn; omega) (fun n hn => by have := lb n hn; omega)
  refine ⟨canon_joinL _ _ _ _ _ _, fun r => ?_⟩
  unfold joinL jN
  rw [if_pos J, val_oneQ, R.sv, show Rat.divInt (jSum a u b v c) 1 = ((jSum a u b v c : Int) : Rat) from Rat.num_divInt_den ((jSum a u b v c : Int) : Rat)]
theorem su_joined0 {a u b v c w : Int} (J : ¬ JoinP a b c u v w) : joinL a u b v c w = [] := by
  unfold joinL
  rw [if_neg J]
/-- sixes -/
def sN (a b c d e f : Int) : Rat := (prodF (sAb a b c d e f) : Rat) / (prodF (sBe a b c d e f) : Rat)
theorem su_six {a b c d e f : Int} (h : SixP a b c d e f) : Su (sixL a b c d e f) ((sixS (sixTs a b c d e f) (sixOs a b c d e f) : Int) : Rat) (sN a b c d e f) := by
  have la := sAb_lt h.f
  have lb := sBe_lt h.f
  have R := rootE_rt (ab := sAb a b c d e f) (be := sBe a b c d e f) (fun n hn => by have := la n hn; omega) (fun n hn => by have := lb n hn; omega)
  refine ⟨?_, fun r => ?_⟩
  · unfold sixL
    rw [if_pos h.j]
    exact canon_oneQ _ _
  · unfold sixL sN
    rw [if_pos h.j, val_oneQ, R.sv, show Rat.divInt (sixS (sixTs a b c d e f) (sixOs a b c d e f)) 1 = ((sixS (sixTs a b c d e f) (sixOs a b c d e f) : Int) : Rat) from Rat.num_divInt_den ((sixS (sixTs a b c d e f) (sixOs a b c d e f) : Int) : Rat)]
theorem six_none {a b c d e f : Int} (h : ¬ Jn a b c d e f = true) : sixL a b c d e f = [] := by
  unfold sixL
  rw [if_neg h]
end TC
namespace TC
set_option exponentiation.threshold 20000
open PySem PySem.Spec PyProof.Rows L2 TCA TCX
/-! ### K12OA: roots of small products, and quotients of numbers of one part -/
def memK : List Nat → Nat → Bool
  | [], f => Nat.beq f 1
  | p :: ps, f => bif Nat.beq (f % p) 0 then memK ps (f / p) else memK ps f
theorem memK_ok : ∀ {ps : List Nat} {f : Nat}, memK ps f = true → f ∈ QF.keys ps
  | [], f, h => List.mem_singleton.mpr (Nat.eq_of_beq_eq_true h)
  | p :: ps, f, h => by
    unfold memK at h
    cases e : Nat.beq (f % p) 0 with
    | false =>
      rw [e, cond_false] at h
      exact List.mem_append_left _ (memK_ok h)
    | true =>
      rw [e, cond_true] at h
      have e' := Nat.eq_of_beq_eq_true e
      exact List.mem_append_right _ (List.mem_map.mpr ⟨f / p, memK_ok h, Nat.mul_div_cancel' (Nat.dvd_of_mod_eq_zero e')⟩)
theorem allP_eq : allP = [2, 3, 5, 7, 11, 13, 17, 19, 23, 29, 31, 37, 41] ++ allP.drop 13 := by decide +kernel
theorem one_all : (1 : Int) ∈ kI allP := List.mem_map.mpr ⟨1, memK_ok (by decide +kernel), rfl⟩
/-- the roots that a ladder has -/
def chkL (r : Nat) : Bool := match TCM.sqOut (r : Int) with
  | (o, i, m) => decide (m = 1) && (decide (0 < o) && (decide (o < 64) && (decide (0 < i) && (decide (i < 4096) && (decide (o * o * i = (r : Int)) && (memK allP i.toNat && (Nat.ble (allP.filter fun (p : Nat) => decide (i % (p : Int) = 0)).length 6 && (List.range 64).all fun d => Nat.ble d 1 || !Nat.beq (i.toNat % (d * d)) 0)))))))
def twoB : Bool := (List.range 42).all fun m => (List.range 42).all fun k => Nat.beq m 0 || (Nat.beq k 0 || (Nat.blt 41 (m + k) || chkL (4 * m * k)))
theorem two_ok : twoB = true := by decide +kernel
structure RtL (r : Int) : Prop where
  ok : RootOk r
  r0 : 0 < r
  sf : SqF (TCM.sqOut r).2.1.toNat
  e : (TCM.sqOut r).1 * (TCM.sqOut r).1 * (TCM.sqOut r).2.1 = r
  i0 : 0 < (TCM.sqOut r).2.1
  i1 : (TCM.sqOut r).2.1 < 4096
  o0 : 0 < (TCM.sqOut r).1
  o1 : (TCM.sqOut r).1 < 64
  k : (TCM.sqOut r).2.1 ∈ kI allP
  few : (allP.filter fun (p : Nat) => decide ((TCM.sqOut r).2.1 % (p : Int) = 0)).length ≤ 6
theorem rtL_of {r : Nat} (r0 : 0 < r) (r1 : r ≤ 1000000) (h : chkL r = true) : RtL (r : Int) := by
  unfold chkL at h
  have hR : RtL (r : Int) ↔ RtL (r : Int) := Iff.rfl
  cases hs : TCM.sqOut (r : Int) with
  | mk o im =>
  obtain ⟨i, m⟩ := im
  rw [hs] at h
  simp only [Bool.and_eq_true, decide_eq_true_eq] at h
  obtain ⟨h1, h2, h3, h4, h5, h6, h7, h8, h9⟩ := h
  have ei : ((i.toNat : Nat) : Int) = i := Int.toNat_of_nonneg (by omega)
  refine ⟨⟨by omega, by omega, by rw [hs]; exact h1, by rw [hs]; show 0 ≤ o; omega, by rw [hs]; show o ≤ 1000; omega⟩, by omega, ?_, by rw [hs]; exact h6, by rw [hs]; exact h4, by rw [hs]; exact h5, by rw [hs]; exact h2, by rw [hs]; exact h3, ?_, ?_⟩
  · rw [hs]
    show SqF i.toNat
    intro d hd
    have dl : d < 64 := by
      have z := Nat.le_of_dvd (by omega) hd
      have : i.toNat < 4096 := by omega
      exact Classical.byContradiction fun y => by
        have := Nat.mul_le_mul (show 64 ≤ d by omega) (show 64 ≤ d by omega)
        omega
    have z := List.all_eq_true.mp h9 d (List.mem_range.mpr dl)
    rw [Bool.or_eq_true] at z
    rcases z with z | z
    · have z1 := Nat.le_of_ble_eq_true z
      have : d ≠ 0 := fun w => by
        rw [w] at hd
        have := Nat.eq_zero_of_zero_dvd hd
        omega
      omega
    · have e : i.toNat % (d * d) = 0 := Nat.mod_eq_zero_of_dvd hd
      rw [e] at z
      exact absurd z (by decide)
  · rw [hs]
    exact List.mem_map.mpr ⟨i.toNat, memK_ok h7, ei⟩
  · rw [hs]
    exact Nat.le_of_ble_eq_true h8
theorem rtL_two {m k : Int} (m0 : 0 < m) (k0 : 0 < k) (h : m + k ≤ 41) : RtL (4 * m * k) := by
  obtain ⟨m', rfl⟩ := Int.eq_ofNat_of_zero_le (Int.le_of_lt m0)
  obtain ⟨k', rfl⟩ := Int.eq_ofNat_of_zero_le (Int.le_of_lt k0)
  have z := two_ok
  unfold twoB at z
  have z1 := List.all_eq_true.mp (List.all_eq_true.mp z m' (List.mem_range.mpr (by omega))) k' (List.mem_range.mpr (by omega))
  rw [Bool.or_eq_true, Bool.or_eq_true, Bool.or_eq_true] at z1
  have mk : 0 < 4 * m' * k' := Nat.mul_pos (by omega) (by omega)
  have up : 4 * m' * k' ≤ 4 * 41 * 41 := Nat.mul_le_mul (by omega) (by omega)
  rcases z1 with y | y | y | y
  · have := Nat.eq_of_beq_eq_true y
    omega
  · have := Nat.eq_of_beq_eq_true y
    omega
  · have : 41 < m' + k' := Nat.le_of_ble_eq_true y
    omega
  · have := rtL_of mk (by omega) y
    rwa [show ((4 * m' * k' : Nat) : Int) = 4 * (m' : Int) * (k' : Int) by rw [Int.natCast_mul, Int.natCast_mul]; rfl] at this
theorem rtL_even {x y : Int} (x0 : 0 < x) (y0 : 0 < y) (ex : x % 2 = 0) (ey : y % 2 = 0) (h : x + y ≤ 82) : RtL (x * y) := by
  have := rtL_two (m := x / 2) (k := y / 2) (by omega) (by omega) (by omega)
  have e : 4 * (x / 2) * (y / 2) = x * y := by
    have e1 : x = 2 * (x / 2) := by omega
    have e2 : y = 2 * (y / 2) := by omega
    generalize x / 2 = p at *
    generalize y / 2 = q at *
    subst e1 e2
    grind
  rwa [e] at this
def AllR (L : List Part) : Prop := ∀ x ∈ L, x.1 ∈ kI allP
theorem AllR.on {L : List Part} (h : AllR L) : On allP (TCR.val L) := fun r hr => Classical.byContradiction fun z => hr (TCR.val_not fun x hx e => z (e ▸ h x hx))
theorem AllR.nil : AllR [] := fun x hx => by cases hx
theorem AllR.one (q : Rat) : AllR [(1, q)] := fun x hx => by
  rw [List.mem_singleton.mp hx]
  exact one_all
theorem AllR.of_on {K : List Part} (c : TCR.Canon K) (h : On allP (TCR.val K)) : AllR K := fun x hx => h _ (by rw [c.mem hx]; exact c.nz x hx)
/-- what exact makes, of a root of a ladder -/
theorem RtL.ex {r t b : Int} (h : RtL r) (hb : b ≠ 0) (ht : t ≠ 0) : exL t b r = [((TCM.sqOut r).2.1, Rat.divInt (t * (TCM.sqOut r).1) b)] := by
  unfold exL oneL
  rw [if_neg]
  intro z
  rcases Int.mul_eq_zero.mp z with z | z
  · exact ht z
  · have := h.o0
    omega
theorem RtL.su {r t b : Int} (h : RtL r) (hb : b ≠ 0) : Su (exL t b r) (Rat.divInt t b) (r : Rat) := su_exact h.ok h.r0 hb h.sf h.e h.i0 h.o0
theorem RtL.allR {r t b : Int} (h : RtL r) : AllR (exL t b r) := fun x hx => by
  unfold exL oneL at hx
  split at hx
  · cases hx
  · rw [List.mem_singleton.mp hx]
    exact h.k
theorem RtL.lt {r : Int} (h : RtL r) : r < 2 ^ 24 := by
  have e := h.e
  have o0 := h.o0
  have o1 := h.o1
  have i0 := h.i0
  have i1 := h.i1
  generalize (TCM.sqOut r).1 = o at *
  generalize (TCM.sqOut r).2.1 = i at *
  have a : o * o ≤ 63 * 63 := Int.mul_le_mul (by omega) (by omega) (by omega) (by omega)
  have b : o * o * i ≤ 63 * 63 * 4095 := Int.mul_le_mul a (by omega) (by omega) (by omega)
  have : (63 * 63 * 4095 : Int) < 2 ^ 24 := by decide
  omega
theorem RtL.sub {r t : Int} {b A : Nat} (h : RtL r) (hb : 0 < b) (ht : t.natAbs < 2 ^ A) (hb' : b < 2 ^ A) : SuB (exL t (b : Int) r) (Rat.divInt t (b : Int)) (r : Rat) A 24 := by
  have r0 := h.r0
  have rl := h.lt
  refine ⟨h.su (by omega), t, b, r.toNat, 1, rfl, ?_, hb, by omega, by decide, ht, hb', ?_, by decide⟩
  · rw [show ((1 : Nat) : Rat) = 1 from rfl, show (r : Rat) = ((r.toNat : Nat) : Rat) by rw [← Rat.intCast_natCast, Int.toNat_of_nonneg (by omega)]]
    grind
  · have : ((2 ^ 24 : Nat) : Int) = 2 ^ 24 := by decide
    omega
/-- quotients: what times M's root comes to L -/
theorem Su.over {L M K : List Part} {s s' N N' : Rat} (h : Su L s N) (h' : Su M s' N') (hN : 0 < N) (hN' : 0 < N') (hs : s' ≠ 0) (cK : TCR.Canon K) (aL : AllR L) (aM : AllR M) (aK : AllR K)
    (hv : ∀ u, prodG (K.map (·.1)) (M.map (·.1)) (TCR.val K) (TCR.val M) u = TCR.val L u) : Su K (s / s') (N / N') := by
  letI := (QF.El (QF.cs allP)).ring
  -- M times M
  have e1 : ∀ u, prodG (M.map (·.1)) (M.map (·.1)) (TCR.val M) (TCR.val M) u = s' * s' * N' * (if u = 1 then 1 else 0) := fun u => by
    have R := rt_ok hN'
    have R2 := R.mul R
    have c2 : Cov (TCR.val M) [((rF N' : Nat) : Int)] := ⟨by simp, fun r hr => by
      rw [h'.v, R.sv] at hr
      exact List.mem_singleton.mpr (Classical.byContradiction fun z => hr (if_neg z))⟩
    rw [prodG_supp (cov_can h'.can) c2 (cov_can h'.can) c2 u]
    show (((if mulR ((rF N' : Nat) : Int) ((rF N' : Nat) : Int) = u then TCR.val M ((rF N' : Nat) : Int) * TCR.val M ((rF N' : Nat) : Int) * ((gR ((rF N' : Nat) : Int) ((rF N' : Nat) : Int) : Int) : Rat) else 0) + 0) + 0) = _
    have fp := R.sq.pos
    have em : mulR ((rF N' : Nat) : Int) ((rF N' : Nat) : Int) = 1 := by
      rw [mulR_natK]
      unfold QF.mu
      rw [Nat.gcd_self, Nat.div_self fp]
      rfl
    rw [Rat.add_zero, Rat.add_zero, em, gR_nat, h'.v, R.sv, if_pos rfl, Nat.gcd_self]
    have eN := R.e
    by_cases z : u = 1
    · rw [if_pos z.symm, if_pos z]
      show s' * rQ N' * (s' * rQ N') * (((rF N' : Nat) : Int) : Rat) = _
      rw [Rat.intCast_natCast]
      grind
    · rw [if_neg fun y => z y.symm, if_neg z]
      grind
  have cM := cov_can h'.can
  have cL := cov_can h.can
  have cKc := cov_can cK
  have f1 := fI_prod allP_prm cM cM aM.on aM.on
  have f2 := fI_prod allP_prm cKc cM aK.on aM.on
  have f3 := fI_prod allP_prm cL cM aL.on aM.on
  have g1 : fI allP (prodG (M.map (·.1)) (M.map (·.1)) (TCR.val M) (TCR.val M)) = (QF.El (QF.cs allP)).ι (s' * s' * N') := by
    rw [← fr_one allP_prm.p]
    refine QF.fr_congr fun u _ => ?_
    rw [e1]
    by_cases z : u = 1
    · rw [if_pos z, if_pos (show ((u : Nat) : Int) = 1 by omega)]
      grind
    · rw [if_neg z, if_neg (show ¬ ((u : Nat) : Int) = 1 by omega)]
      grind
  have g2 : fI allP (prodG (K.map (·.1)) (M.map (·.1)) (TCR.val K) (TCR.val M)) = fI allP (TCR.val L) := QF.fr_congr fun u _ => hv u
  have g3 : fI allP (fun r => s' * s' * N' * TCR.val K r) = fI allP (prodG (L.map (·.1)) (M.map (·.1)) (TCR.val L) (TCR.val M)) := by
    rw [fI_mul, ← g1, f1, f3, ← g2, f2]
    grind
  have on1 : On allP (fun r => s' * s' * N' * TCR.val K r) := fun r hr => aK.on r fun z => hr (by show s' * s' * N' * TCR.val K r = 0; rw [z]; grind)
  have on2 := prod_on allP_prm cL cM aL.on aM.on
  have key := fI_inj on1 on2 g3
  have sn : ∀ u, prodG (L.map (·.1)) (M.map (·.1)) (TCR.val L) (TCR.val M) u = sv (s * s') (N * N') u := fun u => by
    have R := rt_ok hN
    have R' := rt_ok hN'
    have R2 := R.mul R'
    have c1 : Cov (TCR.val L) [((rF N : Nat) : Int)] := ⟨by simp, fun r hr => by
      rw [h.v, R.sv] at hr
      exact List.mem_singleton.mpr (Classical.byContradiction fun z => hr (if_neg z))⟩
    have c2 : Cov (TCR.val M) [((rF N' : Nat) : Int)] := ⟨by simp, fun r hr => by
      rw [h'.v, R'.sv] at hr
      exact List.mem_singleton.mpr (Classical.byContradiction fun z => hr (if_neg z))⟩
    rw [prodG_supp (cov_can h.can) c1 (cov_can h'.can) c2 u, R2.sv]
    show (((if mulR ((rF N : Nat) : Int) ((rF N' : Nat) : Int) = u then TCR.val L ((rF N : Nat) : Int) * TCR.val M ((rF N' : Nat) : Int) * ((gR ((rF N : Nat) : Int) ((rF N' : Nat) : Int) : Int) : Rat) else 0) + 0) + 0) = _
    rw [Rat.add_zero, Rat.add_zero, mulR_nat, gR_nat, h.v, h'.v, R.sv, R'.sv, if_pos rfl, if_pos rfl]
    by_cases z : u = ((rF N / Nat.gcd (rF N) (rF N') * (rF N' / Nat.gcd (rF N) (rF N')) : Nat) : Int)
    · rw [if_pos z, if_pos z.symm]
      show s * rQ N * (s' * rQ N') * ((Nat.gcd (rF N) (rF N') : Nat) : Rat) = s * s' * (rQ N * rQ N' * ((Nat.gcd (rF N) (rF N') : Nat) : Rat))
      grind
    · rw [if_neg z, if_neg fun y => z y.symm]
  have np := ne_of_pos hN'
  have c0 : s' * s' * N' ≠ 0 := by grind
  have hq : 0 < N / N' := by
    rw [Rat.div_def]
    exact Rat.mul_pos hN (Rat.inv_pos.mpr hN')
  refine ⟨cK, fun r => ?_⟩
  have k1 := key r
  rw [sn r, show N * N' = N / N' * (N' * N') by grind, sv_sq _ hq hN' r] at k1
  have k2 : TCR.val K r = (s' * s' * N')⁻¹ * sv (s * s' * N') (N / N') r := by
    have : s' * s' * N' * TCR.val K r = sv (s * s' * N') (N / N') r := k1
    rw [← this]
    grind
  rw [k2, sv_mul]
  congr 1
  grind
end TC
namespace TC
set_option exponentiation.threshold 20000
open PySem PySem.Spec PyProof.Rows L2 TCA TCX
/-! ### K12RT: root_of of a fraction above 0 -/
theorem sqF_mul {a b : Nat} (h : Nat.Coprime a b) (ha : SqF a) (hb : SqF b) : SqF (a * b) := fun d hd => by
  have g1 : Nat.gcd d a = 1 := by
    refine ha _ ?_
    have h1 : Nat.gcd d a * Nat.gcd d a ∣ a * b := Nat.dvd_trans (Nat.mul_dvd_mul (Nat.gcd_dvd_left ..) (Nat.gcd_dvd_left ..)) hd
    have c : Nat.Coprime (Nat.gcd d a * Nat.gcd d a) b := Nat.Coprime.mul_left (h.coprime_dvd_left (Nat.gcd_dvd_right ..)) (h.coprime_dvd_left (Nat.gcd_dvd_right ..))
    exact c.dvd_of_dvd_mul_right h1
  have hb' : d * d ∣ b := by
    have c : Nat.Coprime (d * d) a := Nat.Coprime.mul_left g1 g1
    exact c.dvd_of_dvd_mul_left hd
  exact hb d hb'
theorem sq_pos_le {n o i r : Int} (h : Sq n o i r) : o ≤ n ∧ i ≤ n ∧ o * i ≤ n := by
  obtain ⟨o0, i0, r0, e, _, _⟩ := h
  have h1 : 0 < o * i := Int.mul_pos o0 i0
  have h2 : 0 < o * r := Int.mul_pos o0 r0
  have e1 : n = (o * i) * (o * r) := by
    rw [e]
    grind
  have k1 : o * i ≤ n := by
    have := Int.mul_le_mul_of_nonneg_left (show 1 ≤ o * r by omega) (Int.le_of_lt h1)
    rw [Int.mul_one, ← e1] at this
    exact this
  have k2 : o ≤ o * i := by
    have := Int.mul_le_mul_of_nonneg_left (show 1 ≤ i by omega) (Int.le_of_lt o0)
    rw [Int.mul_one] at this
    exact this
  have k3 : i ≤ o * i := by
    have := Int.mul_le_mul_of_nonneg_right (show 1 ≤ o by omega) (Int.le_of_lt i0)
    rw [Int.one_mul] at this
    exact this
  omega
/-- of primes below 1000 alone -/
def Smooth (n : Int) : Prop := 0 < n ∧ ∀ d : Int, 0 < d → d ∣ n → d ≠ 1 → ∃ p ∈ TCM.primes, p ∣ d
theorem smooth_mul {n m : Int} (h : Smooth n) (h' : Smooth m) : Smooth (n * m) := ⟨Int.mul_pos h.1 h'.1, fun d d0 hd d1 => by
  by_cases g : Int.gcd d n = 1
  · obtain ⟨k, hk⟩ := hd
    have c : Nat.Coprime d.natAbs n.natAbs := g
    have hd2 : d.natAbs ∣ n.natAbs * m.natAbs := by
      rw [← Int.natAbs_mul]
      exact Int.natAbs_dvd_natAbs.mpr ⟨k, hk⟩
    have := c.dvd_of_dvd_mul_left hd2
    exact h'.2 d d0 (Int.natAbs_dvd_natAbs.mp this) d1
  · have g0 : 0 < Int.gcd d n := Int.gcd_pos_iff.mpr (.inl (by omega))
    obtain ⟨p, hp, hpd⟩ := h.2 (Int.gcd d n : Int) (by omega) (Int.gcd_dvd_right ..) (by omega)
    exact ⟨p, hp, Int.dvd_trans hpd (Int.gcd_dvd_left ..)⟩⟩
theorem smooth_dvd {n d : Int} (h : Smooth n) (d0 : 0 < d) (hd : d ∣ n) : Smooth d := ⟨d0, fun e e0 he e1 => h.2 e e0 (Int.dvd_trans he hd) e1⟩
theorem smooth_sq {n o i r : Int} (h : Smooth n) (s : Sq n o i r) : r = 1 := by
  rcases s.rest with e | e
  · exact e
  · refine Classical.byContradiction fun h1 => ?_
    obtain ⟨p, hp, hd⟩ := h.2 r s.r0 ⟨o * o * i, by rw [s.eq, Int.mul_comm]⟩ h1
    exact e p hp hd
theorem smooth_small : ∀ k : Nat, k < 100 → Smooth ((k + 1 : Nat) : Int) := fun k hk => by
  have h : ((List.range 101).all fun d => Nat.ble d 1 || TCM.primes.any fun p => decide (((d : Nat) : Int) % p = 0)) = true := by decide +kernel
  refine ⟨by omega, fun d d0 hd d1 => ?_⟩
  have dl := Int.le_of_dvd (by omega) hd
  have z := List.all_eq_true.mp h d.toNat (List.mem_range.mpr (by omega))
  rw [Bool.or_eq_true] at z
  rcases z with z | z
  · have := Nat.le_of_ble_eq_true z
    omega
  · obtain ⟨p, hp, e⟩ := List.any_eq_true.mp z
    have e := of_decide_eq_true e
    rw [Int.toNat_of_nonneg (by omega)] at e
    exact ⟨p, hp, Int.dvd_of_emod_eq_zero e⟩
theorem smooth_fact : ∀ m : Nat, m ≤ 100 → Smooth ((factN m : Nat) : Int)
  | 0, _ => ⟨by decide, fun d d0 hd d1 => absurd (Int.eq_one_of_dvd_one (Int.le_of_lt d0) hd) d1⟩
  | m + 1, h => by
    rw [show factN (m + 1) = (m + 1) * factN m from rfl, Int.natCast_mul]
    exact smooth_mul (smooth_small m (by omega)) (smooth_fact m (by omega))
section
variable {P : Program} {w : World} {K : PySem.W.Frag} {mg : Str → Option Value} {base : Heap} {f : Addr} {fd : FuncData} {C fI fQ CN fN : Addr} {fdN : FuncData}
/-! ### root_of -/
def spRootQ (C : Addr) : Sp := fun vs H Q _ => ∃ (x : Addr) (q : Rat), vs = [.ref x] ∧ NumAt C H x [(1, q)] ∧ 0 < q ∧ Smooth q.num ∧ Smooth (q.den : Int) ∧ q.num < 2 ^ 190 ∧ (q.den : Int) < 2 ^ 190 ∧ ∀ z K H', Same H H' → H z = none → NumAt C H' z K → Su K 1 q → Q (.ref z) H'
abbrev nRoot : List Str := ["one", "root", "top", "bottom", "outside", "inside", "rest", "outside_below", "inside_below", "rest_below"]
theorem scRoot : FnScope nRoot ["one"] (defScope sRootOf) := ⟨rfl, rfl, rfl, by decide +kernel, rfl, by decide +kernel, by decide +kernel⟩
theorem ok_rootQ {fSq fLw : Addr} {fdSq fdLw : FuncData} {tT : Tok} (F : FnP K "root_of" sRootOf f fd) (T : TxtN K mg C fI fQ) (GN : FnOk P w K mg base CX0 1 fN fdN ["thing"] (spNeed C)) (bN : L2.Binds K fdN ["thing"] []) (kN : PySem.W.keepIn K (.ref fN) = true) (gN : mg "need_exact" = some (.ref fN))
    (GSq : FnOk P w K mg base CX0 1 fSq fdSq ["number"] spSqBig) (bSq : L2.Binds K fdSq ["number"] []) (kSq : PySem.W.keepIn K (.ref fSq) = true) (gSq : mg "squares_out" = some (.ref fSq))
    (GLw : FnOk P w K mg base CX0 3 fLw fdLw ["tops", "bottom"] (spLowered C)) (bLw : L2.Binds K fdLw ["tops", "bottom"] []) (kLw : PySem.W.keepIn K (.ref fLw) = true) (gLw : mg "lowered" = some (.ref fLw))
    (gT : mg "TOO_LONG" = some (.int (10 ^ 60) tT)) (gl : mg "len" = none) : FnOk P w K mg base CX0 4 f fd ["one"] (spRootQ C) := by
  refine F.ok scRoot (fun vs H Q E h => ?_) (fun cdv A outer s H vs Q E hr h => ?_)
  · obtain ⟨_, _, rfl, _⟩ := h
    rfl
  obtain ⟨x, q, rfl, hx, q0, sn, sd, nl, dl, k⟩ := h
  have hr1 := hr.mono (j := 1) (by decide)
  have hr3 := hr.mono (j := 3) (by decide)
  have hu := hr.units
  refine ⟨_, PSs.nox (pss_cons (ps_expr (pe_call GN hr1 (by rfl) gN kN bN .nil pass0 (pa_cons (pv 0) pa_nil)))
      (pss_cons (ps_if (pt_cmpR (op_eqD hu) (pe_fld (pv 0) rfl) (pe_tup pa_nil) (nomark _)) pss_never pss_nil)
      (pss_cons (ps_asg (pe_ix ix_tup (pe_fld (pv 0) rfl) pe_int (fun _ _ => rfl)) (pg_tup rfl (pgs_cons (pg_name (i := 1) scRoot.nd rfl (.inl rfl)) (pgs_cons (pg_name (i := 2) scRoot.nd rfl (.inl rfl)) (pgs_cons (pg_name (i := 3) scRoot.nd rfl (.inl rfl)) pgs_nil)))))
      (pss_cons (ps_if (PW.pt (pw_or (pt_cmpR op_gt (pe_callB call_len_seq (by rfl) gl PySem.boot_len (pa_cons (pe_fld (pv 0) rfl) pa_nil)) pe_int (nomark _)) (pw_or (pt_cmpR op_ne (pv 1) pe_int (nomark _)) (pw_or1 (pt_cmpR op_lt (pv 2) pe_int (nomark _)))))) pss_never pss_nil)
      (pss_cons (ps_if (PW.pt (pw_or (pt_cmpR op_ge (pv 2) (pe_glob (v := .int (10 ^ 60)) (by rfl) gT ⟨_, rfl⟩) (nomark _)) (pw_or1 (pt_cmpR op_ge (pv 3) (pe_glob (v := .int (10 ^ 60)) (by rfl) gT ⟨_, rfl⟩) (nomark _))))) pss_never pss_nil)
      (pss_cons (ps_asg (pe_call GSq hr1 (by rfl) gSq kSq bSq .nil pass0 (pa_cons (pv 2) pa_nil)) (pg_tup rfl (pgs_cons (pg_name (i := 4) scRoot.nd rfl (.inl rfl)) (pgs_cons (pg_name (i := 5) scRoot.nd rfl (.inl rfl)) (pgs_cons (pg_name (i := 6) scRoot.nd rfl (.inl rfl)) pgs_nil)))))
      (pss_cons (ps_asg (pe_call GSq hr1 (by rfl) gSq kSq bSq .nil pass0 (pa_cons (pv 3) pa_nil)) (pg_tup rfl (pgs_cons (pg_name (i := 7) scRoot.nd rfl (.inl rfl)) (pgs_cons (pg_name (i := 8) scRoot.nd rfl (.inl rfl)) (pgs_cons (pg_name (i := 9) scRoot.nd rfl (.inl rfl)) pgs_nil)))))
      (pss_cons (ps_if (PW.pt (pw_or (pt_cmpR op_ne (pv 6) pe_int (nomark _)) (pw_or1 (pt_cmpR op_ne (pv 9) pe_int (nomark _))))) pss_never pss_nil)
      (pss_one (ps_ret (pe_call GLw hr3 (by rfl) gLw kLw bLw .nil pass0 (pa_cons (pe_disp (pps_cons (pe_op op_mulW (pv 5) (pv 8)) (pv 4) pps_nil) rfl rfl (by intro z; cases z) (by decide)) (pa_cons (pe_op op_mulW (pv 7) (pv 8)) pa_nil))))))))))))), ?_⟩
  have q0n : q ≠ 0 := ne_of_pos q0
  have num0 : 0 < q.num := by
    obtain ⟨nn, n0, en⟩ := num_nat q0
    omega
  have den0 : 0 < (q.den : Int) := by have := q.den_pos; omega
  have big : (2 : Int) ^ 190 ≤ 10 ^ 60 := by decide
  refine ⟨_, rfl, x, _, rfl, hx, ?_⟩
  obtain ⟨dx, p, h1, hp⟩ := hx
  refine ⟨_, rfl, x, C, dx, _, _, rfl, h1, T.cl, T.nP, rfl, by show 0 ≤ sizeLine; decide, fun t ht => ?_⟩
  have s1 := same_upd (o := .tup []) ht
  refine ⟨toD [(1, q)], .tuple [], (hp.same s1).dp, .tup (SqT.of upd_same) .nil, toD_shaped [(1, q)], rfl, decide ([((1 : Int), q)] = []), congrArg V.bl (toD_eqv [(1, q)] []), ?_⟩
  refine iteD0 (fun z => by cases z) ?_
  replace hp := hp.same s1
  replace h1 := s1 _ _ h1
  replace k := fun z K H' (sm : Same (upd H t (.tup [])) H') hz => k z K H' (s1.trans sm) (s1.free hz)
  generalize upd H t (.tup []) = H1 at hp h1 k ⊢
  obtain ⟨us, hpp, hrefs⟩ := hp
  cases us with
  | nil => cases hrefs
  | cons u us =>
  obtain ⟨hu', hrefs⟩ := hrefs
  have hlen : us.length = 0 := hrefs.len
  refine ⟨_, rfl, x, C, dx, _, _, rfl, h1, T.cl, T.nP, rfl, p, _, 0, .ref u, rfl, rfl, SqT.of hpp, atI_nat (j := 0) rfl, u, _, rfl, SqT.of hu', rfl, _, _, rfl, _, _, rfl, _, _, rfl, rfl, ?_⟩
  refine ⟨_, rfl, x, C, dx, _, _, rfl, h1, T.cl, T.nP, rfl, p, _, rfl, .inr (SqT.of hpp), _, 1, rfl, rfl, _, rfl, ?_⟩
  refine iteD0 ?_ ?_
  · rw [List.length_map, List.length_cons, hlen]
    decide
  refine ⟨_, rfl, rfl, _, rfl, iteNS (congrArg V.int rfl) ?_⟩
  refine ⟨_, rfl, _, 0, rfl, rfl, _, rfl, iteD0 (show ¬ q.num < 0 by omega) ?_⟩
  refine ⟨_, rfl, _, _, rfl, rfl, _, rfl, iteD0 (show ¬ (10 ^ 60 : Int) ≤ q.num by omega) ?_⟩
  refine ⟨_, rfl, _, _, rfl, rfl, _, rfl, iteD0 (show ¬ (10 ^ 60 : Int) ≤ (q.den : Int) by omega) ?_⟩
  refine ⟨_, rfl, _, rfl, num0, fun p1 o i r H2 s2 hp1 hs1 e1 => ?_⟩
  refine ⟨p1, _, rfl, SqT.of e1, rfl, _, _, rfl, _, _, rfl, _, _, rfl, rfl, ?_⟩
  refine ⟨_, rfl, _, rfl, den0, fun p2 o' i' r' H3 s3 hp2 hs2 e2 => ?_⟩
  refine ⟨p2, _, rfl, SqT.of e2, rfl, _, _, rfl, _, _, rfl, _, _, rfl, rfl, ?_⟩
  have s23 := s2.trans s3
  have hr1 := smooth_sq sn hs1
  have hr2 := smooth_sq sd hs2
  subst hr1 hr2
  refine ⟨_, rfl, rfl, _, rfl, iteNS (congrArg V.int rfl) ?_⟩
  refine ⟨_, rfl, rfl, _, rfl, iteNS (congrArg V.int rfl) ?_⟩
  obtain ⟨l1, l2, l3⟩ := sq_pos_le hs1
  obtain ⟨l1', l2', l3'⟩ := sq_pos_le hs2
  have bnd : ∀ {z : Int}, 0 < z → (z ≤ q.num ∨ z ≤ (q.den : Int)) → z.natAbs < 2 ^ 200 := fun {z} z0 hz => by
    have e : (2 : Int) ^ 190 = ((2 ^ 190 : Nat) : Int) := by decide
    have l : (2 : Nat) ^ 190 < 2 ^ 200 := by decide
    omega
  have oi0 := Int.mul_pos hs2.o0 hs2.i0
  have ii0 := Int.mul_pos hs1.i0 hs2.i0
  intro d hd
  refine ⟨_, rfl, _, rfl, i, i', rfl, rfl, cmulw (bnd hs1.i0 (.inl l2)) (bnd hs2.i0 (.inr l2')) (by decide) (by decide) (by decide), _, rfl, upd_same, [(Sum.inl _, _)], rfl, by show 1 ≤ 15; decide, ?_⟩
  rw [upd_upd]
  have sm2 := same_upd (o := .dK (mergeK [] [((Sum.inl (i * i') : Key), V.int o)])) hd
  have hI : IntD (upd H3 d (.dK (mergeK [] [((Sum.inl (i * i') : Key), V.int o)]))) d [i * i'] (fun s => if s = i * i' then o else 0) := by
    refine ⟨_, upd_same, rfl, fun s hs => ?_, by simp, fun s hs => if_neg fun z => hs (List.mem_singleton.mpr z)⟩
    rw [List.mem_singleton.mp hs]
    show valV [((Sum.inl (i * i') : Key), V.int o)] (Sum.inl (i * i')) = some (V.int (if i * i' = i * i' then o else 0))
    rw [if_pos rfl]
    exact valV_pos rfl
  refine ⟨_, rfl, _, rfl, o', i', rfl, rfl, cmulw (bnd hs2.o0 (.inr l1')) (bnd hs2.i0 (.inr l2')) (by decide) (by decide) (by decide), d, _, _, _, 200, rfl, hI, by omega, bnd oi0 (.inr l3'), by decide, by decide, by show 1 ≤ 5000; decide, fun z N H' sm3 hz hN cN vN lN => ?_⟩
  refine k z N H' ((s23.trans sm2).trans sm3) ((s23.trans sm2).free hz) hN ?_
  -- the square of it is the fraction
  obtain ⟨on, eo⟩ := Int.eq_ofNat_of_zero_le (Int.le_of_lt hs1.o0)
  obtain ⟨im, ei⟩ := Int.eq_ofNat_of_zero_le (Int.le_of_lt hs1.i0)
  obtain ⟨on', eo'⟩ := Int.eq_ofNat_of_zero_le (Int.le_of_lt hs2.o0)
  obtain ⟨im', ei'⟩ := Int.eq_ofNat_of_zero_le (Int.le_of_lt hs2.i0)
  have hs1o := hs1.o0
  have hs1i := hs1.i0
  have hs2o := hs2.o0
  have hs2i := hs2.i0
  have fi := hs1.si
  have fi' := hs2.si
  have qn := hs1.eq
  have qd := hs2.eq
  have cop : Nat.Coprime im im' := by
    have c : Nat.Coprime q.num.natAbs q.den := q.reduced
    have d1 : im ∣ q.num.natAbs := by
      rw [qn, eo, ei, Int.mul_one]
      refine ⟨on * on, ?_⟩
      rw [show (on : Int) * on * (im : Int) = ((on * on * im : Nat) : Int) by rw [Int.natCast_mul, Int.natCast_mul], Int.natAbs_natCast, Nat.mul_comm]
    have d2 : im' ∣ q.den := by
      refine ⟨on' * on', ?_⟩
      have z : ((q.den : Nat) : Int) = ((im' * (on' * on') : Nat) : Int) := by
        rw [qd, eo', ei', Int.mul_one]
        rw [Int.natCast_mul, Int.natCast_mul, Int.mul_comm]
      exact Int.natCast_inj.mp z
    exact (c.coprime_dvd_left d1).coprime_dvd_right d2
  rw [ei, Int.toNat_natCast] at fi
  rw [ei', Int.toNat_natCast] at fi'
  have sf := sqF_mul cop fi fi'
  have R : IsRt (im * im') (Rat.divInt o (o' * i')) q := by
    refine ⟨sf, ?_, ?_⟩
    · rw [eo, eo', ei', Rat.divInt_eq_div]
      have p1 : (0 : Rat) < ((on : Nat) : Rat) := pos_nat (by omega)
      have p2 : (0 : Rat) < ((on' * im' : Nat) : Rat) := pos_nat (Nat.mul_pos (by omega) (by omega))
      rw [← Int.natCast_mul, Rat.intCast_natCast, Rat.intCast_natCast, Rat.div_def]
      exact Rat.mul_pos p1 (Rat.inv_pos.mpr p2)
    · have dn := rat_frac q
      have dz : (q.den : Rat) ≠ 0 := ne_of_pos (pos_nat q.den_pos)
      have e1 : ((q.num : Int) : Rat) = (on : Rat) * on * im := by
        rw [qn, eo, ei, Int.mul_one, Rat.intCast_mul, Rat.intCast_mul]
        rfl
      have e2 : (q.den : Rat) = (on' : Rat) * on' * im' := by
        rw [← Rat.intCast_natCast, qd, eo', ei', Int.mul_one, Rat.intCast_mul, Rat.intCast_mul]
        rfl
      rw [e1] at dn
      rw [e2] at dn dz
      rw [eo, eo', ei', Rat.divInt_eq_div, Rat.intCast_mul, Rat.natCast_mul, Rat.intCast_natCast, Rat.intCast_natCast, Rat.intCast_natCast, Rat.div_def]
      generalize (on : Rat) = x1 at *
      generalize (on' : Rat) = x2 at *
      generalize (im : Rat) = x3 at *
      generalize (im' : Rat) = x4 at *
      have a1 : x2 ≠ 0 := fun z => dz (by rw [z]; grind)
      have a2 : x4 ≠ 0 := fun z => dz (by rw [z]; grind)
      grind
  refine ⟨cN, fun r => ?_⟩
  rw [vN r, R.sv]
  by_cases z : r = i * i'
  · rw [if_pos z, if_pos (by rw [z, ei, ei', Int.natCast_mul])]
    grind
  · rw [if_neg z, if_neg fun y => z (by rw [y, ei, ei', Int.natCast_mul])]
    exact divInt_zero _
end
end TC
namespace TC
set_option exponentiation.threshold 20000
open PySem PySem.Spec PyProof.Rows L2 TCA TCX
/-! ### K12OB: times, plus, over, exact of numbers of one part, wide -/
def spTimesA (C : Addr) : Sp := fun vs H Q _ => ∃ (x y : Addr) (L M : List Part) (s s' N N' : Rat) (A B A' B' : Nat), vs = [.ref x, .ref y] ∧ NumAt C H x L ∧ NumAt C H y M ∧ SuB L s N A B ∧ SuB M s' N' A' B' ∧ A + A' ≤ 2000 ∧ B + B' ≤ 2490 ∧
  ∀ z K H', Same H H' → H z = none → NumAt C H' z K → SuB K (s * s') (N * N') (A + A') (B + B') → (AllR L → AllR M → AllR K) → Q (.ref z) H'
theorem timesA {C : Addr} : ∀ vs H Q E, spTimesA C vs H Q E → spTimes C vs H Q E := fun vs H Q E h => by
  obtain ⟨x, y, L, M, s, s', N, N', A, B, A', B', e, h1, h2, S1, S2, bd, bd2, q⟩ := h
  obtain ⟨D1, d1, dl1, F1⟩ := (S1.mono (Nat.le_succ A) (Nat.le_succ B)).fit
  obtain ⟨D2, d2, dl2, F2⟩ := (S2.mono (Nat.le_succ A') (Nat.le_succ B')).fit
  have l1 := S1.len
  have l2 := S2.len
  have up : ∀ {D a r R : Nat} {L : List Part}, Fit D a r L → r ≤ R → Fit D a R L := fun h hr => ⟨h.can, h.den, h.num, fun x hx => ⟨(h.pos x hx).1, Nat.lt_of_lt_of_le (h.pos x hx).2 (Nat.pow_le_pow_right (by decide) hr)⟩⟩
  refine ⟨x, y, L, M, D1, D2, _, _, _, _, (B + 1 + (B + 1)) + (B' + 1 + (B' + 1)), e, h1, h2, up F1 (by omega), up F2 (by omega), d1, d2, dl1, dl2, by omega, by omega, by omega, by omega, by omega, by omega, by omega, by omega, by omega, by omega, ?_, fun z K H' sm hz hK fK vK lK => q z K H' sm hz hK (S1.times S2 fK.can vK) fun aL aM => AllR.of_on fK.can fun r hr => prod_on allP_prm (cov_can F1.can) (cov_can F2.can) aL.on aM.on r (by rw [← vK r]; exact hr)⟩
  have := Nat.mul_le_mul l1 l2
  omega
def spPlusA (C : Addr) : Sp := fun vs H Q _ => ∃ (x y : Addr) (L M : List Part) (s s' N : Rat) (A B A' B' : Nat), vs = [.ref x, .ref y] ∧ NumAt C H x L ∧ NumAt C H y M ∧ SuB L s N A B ∧ SuB M s' N A' B' ∧ A + A' ≤ 2000 ∧ B + B' ≤ 2490 ∧
  ∀ z K H', Same H H' → H z = none → NumAt C H' z K → SuB K (s + s') N (A + A' + 1) B → Q (.ref z) H'
theorem plusA {C : Addr} : ∀ vs H Q E, spPlusA C vs H Q E → spPlus C vs H Q E := fun vs H Q E h => by
  obtain ⟨x, y, L, M, s, s', N, A, B, A', B', e, h1, h2, S1, S2, bd, bd2, q⟩ := h
  obtain ⟨D1, d1, dl1, F1⟩ := (S1.mono (Nat.le_succ A) (Nat.le_succ B)).fit
  obtain ⟨D2, d2, dl2, F2⟩ := (S2.mono (Nat.le_succ A') (Nat.le_succ B')).fit
  have l1 := S1.len
  have l2 := S2.len
  refine ⟨x, y, L, M, A + 1 + (B + 1 + (B + 1)), A' + 1 + (B' + 1 + (B' + 1)), e, h1, h2, fit_good F1 (Nat.lt_of_lt_of_le dl1 (Nat.pow_le_pow_right (by decide) (by omega))) (Nat.le_refl _) d1, fit_good F2 (Nat.lt_of_lt_of_le dl2 (Nat.pow_le_pow_right (by decide) (by omega))) (Nat.le_refl _) d2, by omega, by omega, by omega, by omega, fun z K H' sm hz hK gK vK lK => q z K H' sm hz hK (S1.plus S2 gK.1 vK)⟩
def spOverA (C : Addr) : Sp := fun vs H Q _ => ∃ (x y : Addr) (L M : List Part) (s s' N N' : Rat) (A B D2 A2 B2 R W : Nat), vs = [.ref x, .ref y] ∧ NumAt C H x L ∧ NumAt C H y M ∧ SuB L s N A B ∧ AllR L ∧ Su M s' N' ∧ 0 < N' ∧ s' ≠ 0 ∧ M ≠ [] ∧ Rts M W R ∧ (psOf M).length ≤ 6 ∧ Fit D2 A2 R M ∧ 0 < D2 ∧ D2 < 2 ^ B2 ∧ 0 < A2 ∧ 0 < B2 ∧ A + B + 64 * (A2 + B2 + R + 13) + 2 ≤ 8000 ∧ A + (B + B) ≤ 1900 ∧
  ∀ z K H', Same H H' → H z = none → NumAt C H' z K → Su K (s / s') (N / N') → AllR K → Q (.ref z) H'
theorem overA {C : Addr} : ∀ vs H Q E, spOverA C vs H Q E → spOver C vs H Q E := fun vs H Q E h => by
  obtain ⟨x, y, L, M, s, s', N, N', A, B, D2, A2, B2, R, W, e, h1, h2, S1, aL, S2, n0, s0, m0, RT, few, fM, d0, d1, a0, b0, bd, bd2, q⟩ := h
  obtain ⟨D1, d1', dl1, F1⟩ := (S1.mono (Nat.le_succ A) (Nat.le_succ B)).fit
  have l1 := S1.len
  have l2 := S2.len n0
  exact ⟨x, y, L, M, e, h1, h2, W, R, D1, _, _, _, D2, A2, B2, m0, RT, few, F1, fM, aL, d1', dl1, d0, d1, by omega, by omega, by omega, a0, by omega, b0, by omega, by omega, by omega, by omega, by omega, fun z K D H' sm hz hK fK _ _ aK _ hv => q z K H' sm hz hK (S1.1.over S2 S1.pos n0 s0 fK.can aL RT.k aK hv) aK⟩
/-- over the root of a small product -/
def spOverR (C : Addr) : Sp := fun vs H Q _ => ∃ (x y : Addr) (L : List Part) (r : Int) (s N : Rat) (A B : Nat), vs = [.ref x, .ref y] ∧ NumAt C H x L ∧ NumAt C H y (exL 1 1 r) ∧ RtL r ∧ SuB L s N A B ∧ AllR L ∧ A + (B + B) ≤ 1900 ∧
  ∀ z K H', Same H H' → H z = none → NumAt C H' z K → Su K s (N / (r : Rat)) → AllR K → Q (.ref z) H'
theorem overR {C : Addr} : ∀ vs H Q E, spOverR C vs H Q E → spOverA C vs H Q E := fun vs H Q E h => by
  obtain ⟨x, y, L, r, s, N, A, B, e, h1, h2, hr, S1, aL, bd, q⟩ := h
  have eM := hr.ex (t := 1) (b := 1) (by decide) (by decide)
  have o0 := hr.o0
  have o1 := hr.o1
  have i0 := hr.i0
  have i1 := hr.i1
  have k := hr.k
  have few := hr.few
  have S2 := hr.su (t := 1) (b := 1) (by decide)
  have aM := hr.allR (t := 1) (b := 1)
  have r0 : (0 : Rat) < (r : Rat) := by
    have := hr.r0
    rw [show r = ((r.toNat : Nat) : Int) by omega, Rat.intCast_natCast]
    exact pos_nat (by omega)
  rw [eM] at S2 aM h2
  have c := S2.can
  generalize (TCM.sqOut r).1 = o at *
  generalize (TCM.sqOut r).2.1 = i at *
  have eq : Rat.divInt (1 * o) 1 = ((o : Int) : Rat) := by
    rw [Int.one_mul]
    exact Rat.num_divInt_den (o : Rat)
  have e1 : Rat.divInt 1 1 = 1 := by decide +kernel
  refine ⟨x, y, L, _, s, 1, N, (r : Rat), A, B, 1, 7, 1, 12, i.toNat, e, h1, h2, S1, aL, S2.of e1 rfl, r0, by decide, by simp, ⟨aM, fun z hz => ?_, by omega, by omega, by decide, by decide⟩, ?_, ⟨c, fun z hz => ?_, fun z hz => ?_, fun z hz => ?_⟩, by decide, by decide, by decide, by decide, by omega, bd, fun z K H' sm hz hK sK aK => q z K H' sm hz hK (sK.of (by grind) rfl) aK⟩
  · rw [List.mem_singleton.mp hz]
    show i.natAbs ∣ i.toNat
    rw [show i.natAbs = i.toNat by omega]
    exact Nat.dvd_refl _
  · have ee : psOf [(i, Rat.divInt (1 * o) 1)] = allP.filter fun (p : Nat) => decide (i % (p : Int) = 0) := by
      unfold psOf
      refine List.filter_congr fun p _ => ?_
      show (decide (i % (p : Int) = 0) || false) = _
      rw [Bool.or_false]
    rw [ee]
    exact few
  · rw [List.mem_singleton.mp hz]
    show (Rat.divInt (1 * o) 1).den ∣ 1
    rw [eq]
    exact Nat.dvd_refl _
  · rw [List.mem_singleton.mp hz]
    show (Rat.divInt (1 * o) 1).num.natAbs < 2 ^ 7
    rw [eq]
    show o.natAbs < 2 ^ 7
    omega
  · rw [List.mem_singleton.mp hz]
    show 0 < i ∧ i.natAbs < 2 ^ 12
    omega
/-- 1 over a fraction -/
def spOverQ (C : Addr) : Sp := fun vs H Q _ => ∃ (x y : Addr) (L M : List Part) (s q : Rat) (A2 B2 : Nat), vs = [.ref x, .ref y] ∧ NumAt C H x L ∧ NumAt C H y M ∧ SuB L s 1 2 1 ∧ AllR L ∧ Su M q 1 ∧ 0 < q ∧ q.num.natAbs < 2 ^ A2 ∧ q.den < 2 ^ B2 ∧ 0 < A2 ∧ 0 < B2 ∧ 64 * (A2 + B2 + 15) ≤ 7900 ∧
  ∀ z K H', Same H H' → H z = none → NumAt C H' z K → Su K (s / q) 1 → AllR K → Q (.ref z) H'
theorem Su.frac {M : List Part} {q : Rat} (h : Su M q 1) (q0 : q ≠ 0) : M = [(1, q)] := by
  rcases h.shape with ⟨_, z⟩ | z
  · have := z 1 1 IsRt.one
    exact absurd (by rwa [Rat.mul_one] at this) q0
  · have := (z 1 1 IsRt.one).1
    rw [this, Rat.mul_one]
    rfl
theorem overQ {C : Addr} : ∀ vs H Q E, spOverQ C vs H Q E → spOverA C vs H Q E := fun vs H Q E h => by
  obtain ⟨x, y, L, M, s, q, A2, B2, e, h1, h2, S1, aL, S2, q0, nl, dl, a0, b0, bd, k⟩ := h
  have qn := ne_of_pos q0
  have eM := S2.frac qn
  have c := S2.can
  subst eM
  refine ⟨x, y, L, _, s, q, 1, 1, 2, 1, q.den, A2, B2, 2, 1, e, h1, h2, S1, aL, S2, by decide, qn, by simp, ⟨AllR.one q, fun z hz => ?_, by decide, by decide, by decide, by decide⟩, ?_, ⟨c, fun z hz => ?_, fun z hz => ?_, fun z hz => ?_⟩, q.den_pos, dl, a0, b0, by omega, by decide, fun z K H' sm hz hK sK aK => k z K H' sm hz hK (sK.of rfl (by decide +kernel)) aK⟩
  · rw [List.mem_singleton.mp hz]
    exact Nat.dvd_refl _
  · have ee : psOf [((1 : Int), q)] = [] := by
      unfold psOf
      refine List.filter_eq_nil_iff.mpr fun p hp => ?_
      have p2 := (allP_prm.p p hp).1
      show ¬ (decide ((1 : Int) % (p : Int) = 0) || false) = true
      rw [Bool.or_false, decide_eq_true_iff]
      intro z
      have : (1 : Int) % (p : Int) = 1 := Int.emod_eq_of_lt (by decide) (by omega)
      omega
    rw [ee]
    decide
  · rw [List.mem_singleton.mp hz]
    exact Nat.dvd_refl _
  · rw [List.mem_singleton.mp hz]
    exact nl
  · rw [List.mem_singleton.mp hz]
    exact ⟨by show (0 : Int) < 1; decide, by show (1 : Int).natAbs < 2 ^ 2; decide⟩
theorem overQ' {C : Addr} : ∀ vs H Q E, spOverQ C vs H Q E → spOver C vs H Q E := fun vs H Q E h => overA _ _ _ _ (overQ _ _ _ _ h)
theorem overR' {C : Addr} : ∀ vs H Q E, spOverR C vs H Q E → spOver C vs H Q E := fun vs H Q E h => overA _ _ _ _ (overR _ _ _ _ h)
section
variable {P : Program} {w : World} {K : PySem.W.Frag} {mg : Str → Option Value} {base : Heap} {f : Addr} {fd : FuncData} {C fI fQ : Addr}
theorem ok_timesA {fN fO fP fW : Addr} {fdN fdO fdP fdW : FuncData} (F : FnP K "times" sTimes f fd) (T : TxtN K mg C fI fQ) (GN : FnOk P w K mg base CX0 1 fN fdN ["thing"] (spNeed C)) (bN : L2.Binds K fdN ["thing"] []) (kN : PySem.W.keepIn K (.ref fN) = true) (gN : mg "need_exact" = some (.ref fN))
    (GO : FnOk P w K mg base CX0 2 fO fdO ["parts"] spOneB) (bO : L2.Binds K fdO ["parts"] []) (kO : PySem.W.keepIn K (.ref fO) = true) (gO : mg "on_one_bottom" = some (.ref fO))
    (GP : FnOk P w K mg base CX0 2 fP fdP ["tops", "others"] spProducts) (bP : L2.Binds K fdP ["tops", "others"] []) (kP : PySem.W.keepIn K (.ref fP) = true) (gP : mg "products" = some (.ref fP))
    (GW : FnOk P w K mg base CX0 3 fW fdW ["tops", "bottom"] (spLowered C)) (bW : L2.Binds K fdW ["tops", "bottom"] []) (kW : PySem.W.keepIn K (.ref fW) = true) (gW : mg "lowered" = some (.ref fW)) :
    FnOk P w K mg base CX0 4 f fd ["one", "other"] (spTimesA C) :=
  (ok_times F T GN bN kN gN GO bO kO gO GP bP kP gP GW bW kW gW).imp timesA
theorem ok_plusA {fN fM : Addr} {fdN fdM fdI : FuncData} (F : FnP K "plus" sPlus f fd) (T : TxtN K mg C fI fQ) (GN : FnOk P w K mg base CX0 1 fN fdN ["thing"] (spNeed C)) (bN : L2.Binds K fdN ["thing"] []) (kN : PySem.W.keepIn K (.ref fN) = true) (gN : mg "need_exact" = some (.ref fN))
    (GM : FnOk P w K mg base CX0 3 fM fdM ["parts", "others"] spMerged) (bM : L2.Binds K fdM ["parts", "others"] []) (kM : PySem.W.keepIn K (.ref fM) = true) (gM : mg "merged" = some (.ref fM))
    (GI : FnOk P w K mg base CX0 1 fI fdI ["self", "parts"] (spInit C)) (bI : L2.Binds K fdI ["self", "parts"] []) : FnOk P w K mg base CX0 4 f fd ["one", "other"] (spPlusA C) :=
  (ok_plus F T GN bN kN gN GM bM kM gM GI bI).imp plusA
end
end TC
namespace TCX
set_option exponentiation.threshold 20000
/-! ### binomials -/
def binN (n k : Nat) : Nat := factN n / (factN k * factN (n - k))
theorem bin_mul {n k : Nat} (h : k ≤ n) : binN n k * (factN k * factN (n - k)) = factN n := by
  have d := fact_dvd k (n - k)
  rw [show k + (n - k) = n by omega] at d
  exact Nat.div_mul_cancel d
theorem bin_succ {n k : Nat} (h : k < n) : binN n (k + 1) * (k + 1) = binN n k * (n - k) := by
  have e1 := bin_mul (n := n) (k := k + 1) h
  have e2 := bin_mul (n := n) (k := k) (by omega)
  have p1 := fact_pos k
  have p2 := fact_pos (n - (k + 1))
  have e3 : factN (n - k) = (n - k) * factN (n - (k + 1)) := by
    rw [show n - k = (n - (k + 1)) + 1 by omega]
    rfl
  have e4 : factN (k + 1) = (k + 1) * factN k := rfl
  rw [e4] at e1
  rw [e3] at e2
  refine Nat.eq_of_mul_eq_mul_right (Nat.mul_pos p1 p2) ?_
  calc binN n (k + 1) * (k + 1) * (factN k * factN (n - (k + 1))) = binN n (k + 1) * ((k + 1) * factN k * factN (n - (k + 1))) := by simp only [Nat.mul_assoc]
    _ = factN n := e1
    _ = binN n k * (factN k * ((n - k) * factN (n - (k + 1)))) := e2.symm
    _ = _ := by simp only [Nat.mul_assoc, Nat.mul_left_comm, Nat.mul_comm]
theorem bin_zero (n : Nat) : binN n 0 = 1 := by
  unfold binN
  rw [show factN 0 = 1 from rfl, Nat.one_mul, Nat.sub_zero]
  exact Nat.div_self (fact_pos n)
theorem bin_step {n k : Nat} (h : k < n) : ((binN n k : Nat) : Int) * ((n : Int) - (k : Int)) / ((k : Int) + 1) = ((binN n (k + 1) : Nat) : Int) := by
  have e : ((binN n k : Nat) : Int) * ((n : Int) - (k : Int)) = ((binN n (k + 1) : Nat) : Int) * ((k : Int) + 1) := by
    have z := congrArg (Nat.cast : Nat → Int) (bin_succ h)
    rw [Int.natCast_mul, Int.natCast_mul, Int.natCast_sub (by omega)] at z
    rw [← z]
    congr 1
  rw [e]
  exact Int.mul_ediv_cancel _ (by omega)
theorem fact_lt2P : ∀ n, n < 42 → factN n < 2 ^ 166 := by decide +kernel
theorem bin_lt {n k : Nat} (h : n < 42) : binN n k < 2 ^ 166 := Nat.lt_of_le_of_lt (Nat.div_le_self _ _) (fact_lt2P n h)
end TCX
namespace TCX
open PySem PySem.Spec PyProof.Rows L2
/-! dicts whose keys are tuples of tuples -/
mutual
/-- the value v is the key k: a whole number, a text, or a tracked tuple of such -/
inductive NKey (H : Hp) : NestedKey → V → Prop
  | int (i : Int) : NKey H (.num i) (.int i)
  | str (x : Str) : NKey H (.text x) (.str x)
  | tup {b : Addr} {vs : List V} {ks : List NestedKey} : H b = some (.tup vs) → NKeys H ks vs → NKey H (.tup ks) (.ref b)
inductive NKeys (H : Hp) : List NestedKey → List V → Prop
  | nil : NKeys H [] []
  | cons {k : NestedKey} {v : V} {ks : List NestedKey} {vs : List V} : NKey H k v → NKeys H ks vs → NKeys H (k :: ks) (v :: vs)
end
mutual
theorem NKey.keeps {H H' : Hp} (ht : ∀ b xs, H b = some (.tup xs) → H' b = some (.tup xs)) : ∀ {k : NestedKey} {v : V}, NKey H k v → NKey H' k v
  | .num _, _, h => by cases h; exact .int _
  | .text _, _, h => by cases h; exact .str _
  | .none, _, h => by cases h
  | .tup ks, _, h => by
    cases h with
    | tup h1 h2 => exact .tup (ht _ _ h1) (NKeys.keeps ht h2)
theorem NKeys.keeps {H H' : Hp} (ht : ∀ b xs, H b = some (.tup xs) → H' b = some (.tup xs)) : ∀ {ks : List NestedKey} {vs : List V}, NKeys H ks vs → NKeys H' ks vs
  | [], _, h => by cases h; exact .nil
  | k :: ks, _, h => by
    cases h with
    | cons h1 h2 => exact .cons (NKey.keeps ht h1) (NKeys.keeps ht h2)
end
mutual
theorem NKey.is {P : Program} {w : World} {H : Hp} {h : Heap} (ok : HOk P w H h) : ∀ {k : NestedKey} {v : V} {u : Value}, NKey H k v → RelV v u → NestedIs h k u
  | .num i, _, u, hk, r => by
    cases hk
    obtain ⟨t, e⟩ := (show ∃ t, u = Value.int i t from r)
    subst e
    exact .int _ _
  | .text x, _, u, hk, r => by
    cases hk
    obtain ⟨t, e⟩ := (show ∃ t, u = Value.str x t from r)
    subst e
    exact .text _ _
  | .none, _, _, hk, _ => by cases hk
  | .tup ks, _, u, hk, r => by
    cases hk with
    | @tup b vs _ h1 h2 =>
      obtain rfl : u = Value.ref b := r
      obtain ⟨_, its, rr, o, g1, g2, n, g3⟩ := (show ObjOk P w H h b (.tup vs) from ok b _ h1)
      exact .tup g1 g2 g3 (by simpa using NKeys.is ok h2 rr)
theorem NKeys.is {P : Program} {w : World} {H : Hp} {h : Heap} (ok : HOk P w H h) : ∀ {ks : List NestedKey} {vs : List V} {us : List Value}, NKeys H ks vs → Vals vs us → NestedAll h ks us
  | [], _, _, hk, r => by
    cases hk
    cases r
    exact .nil
  | k :: ks, _, _, hk, r => by
    cases hk with
    | cons h1 h2 =>
      cases r with
      | cons r1 r2 => exact .cons (NKey.is ok h1 r1) (NKeys.is ok h2 r2)
end
section
variable (P : Program) (w : World)
/-- a dict object with these entries -/
def NdO (a : Addr) (xs : List (NestedKey × Addr × Value)) : HO := .ext fun h => ∃ o es ep, h.get? a = some o ∧ o.ExactDict ∧ o.data = .dict es ep ∧ es.toList = xs.map (entryOfKey (nestedKind P w)) ∧ (xs.map (·.1)).Nodup
abbrev KN (H : Hp) : List (NestedKey × V) → List (NestedKey × Addr × Value) → Prop := Paired fun p q => p.1 = q.1 ∧ (NKey H q.1 (.ref q.2.1) ∧ q.1.depth ≤ 8) ∧ RelV p.2 q.2.2
/-- at d stands a dict of these pairs -/
def NDictAt (H : Hp) (d : Addr) (kvs : List (NestedKey × V)) : Prop := ∃ xs, H d = some (NdO P w d xs) ∧ KN H kvs xs ∧ kvs.length ≤ sizeLine ∧ (d == sysModules) = false
end
section
variable {P : Program} {w : World}
theorem KN.val {H : Hp} {kvs : List (NestedKey × V)} {xs : List (NestedKey × Addr × Value)} (r : KN H kvs xs) (k : NestedKey) : RelO (valV kvs k) ((atKey xs k).map (·.2)) := by
  induction r with
  | nil => exact True.intro
  | @cons p q ps qs h t ih =>
    obtain ⟨h1, _, h2⟩ := h
    by_cases e : p.1 = k
    · have e' : q.1 = k := h1.symm.trans e
      have b : atKey (q :: qs) k = some q.2 := by simp [atKey, List.find?_cons, e']
      rw [valV_pos e, b]; exact h2
    · have e' : ¬ q.1 = k := fun z => e (h1.trans z)
      have b : atKey (q :: qs) k = atKey qs k := by simp [atKey, List.find?_cons, e']
      rw [valV_neg e, b]; exact ih
theorem KN.repl {H : Hp} {kvs : List (NestedKey × V)} {xs : List (NestedKey × Addr × Value)} (r : KN H kvs xs) (k : NestedKey) {y : V} {u : Value} (ry : RelV y u) :
    KN H (kvs.map fun kv => if kv.1 = k then (kv.1, y) else kv) (xs.map (putAt k u)) := by
  induction r with
  | nil => exact .nil
  | @cons p q ps qs h t ih =>
    rw [List.map_cons, List.map_cons]
    refine .cons ?_ ih
    obtain ⟨h1, h2, h3⟩ := h
    unfold putAt
    by_cases e : p.1 = k
    · rw [if_pos e, if_pos (h1.symm.trans e)]; exact ⟨h1, h2, ry⟩
    · rw [if_neg e, if_neg (fun z => e (h1.trans z))]; exact ⟨h1, h2, h3⟩
theorem KN.put {H : Hp} {kvs : List (NestedKey × V)} {xs : List (NestedKey × Addr × Value)} (r : KN H kvs xs) (k : NestedKey) {b : Addr} {y : V} {u : Value} (hb : NKey H k (.ref b)) (hd : k.depth ≤ 8) (ry : RelV y u) :
    KN H (putK kvs k y) (storedH xs k b u) := by
  have e : (kvs.any fun kv => decide (kv.1 = k)) = (atKey xs k).isSome := by
    rw [valV_any, (r.val k).isSome_eq, Option.isSome_map]
  unfold putK storedH
  rw [e]
  by_cases q : (atKey xs k).isSome = true
  · rw [if_pos q, if_pos q]; exact r.repl k ry
  · rw [if_neg q, if_neg q]; exact Paired.snoc r ⟨rfl, ⟨hb, hd⟩, ry⟩
theorem KN.keeps {H H' : Hp} {kvs : List (NestedKey × V)} {xs : List (NestedKey × Addr × Value)} (r : KN H kvs xs) (ht : ∀ b ys, H b = some (.tup ys) → H' b = some (.tup ys)) : KN H' kvs xs :=
  Paired.mapP r fun _ _ z => ⟨z.1, ⟨z.2.1.1.keeps ht, z.2.1.2⟩, z.2.2⟩
theorem NDictAt.keeps {H H' : Hp} {d : Addr} {kvs : List (NestedKey × V)} (h : NDictAt P w H d kvs) (hd : ∀ o, H d = some o → H' d = some o) (ht : ∀ b ys, H b = some (.tup ys) → H' b = some (.tup ys)) : NDictAt P w H' d kvs := by
  obtain ⟨xs, h1, h2, h3, h4⟩ := h
  exact ⟨xs, hd _ h1, KN.keeps h2 ht, h3, h4⟩
theorem nd_of {H : Hp} {h : Heap} {d : Addr} {kvs : List (NestedKey × V)} (ok : HOk P w H h) (e : NDictAt P w H d kvs) : ∃ xs, H d = some (NdO P w d xs) ∧ KN H kvs xs ∧ h.DictOfH (nestedKind P w) d xs ∧ kvs.length ≤ sizeLine ∧ (d == sysModules) = false := by
  obtain ⟨xs, h1, h2, h3, h4⟩ := e
  obtain ⟨⟨o, es, ep, g1, g2, g3, g4, g5⟩, _⟩ := (show ObjOk P w H h d (NdO P w d xs) from ok d _ h1)
  refine ⟨xs, h1, h2, ⟨o, es, ep, g1, g2, g3, g4, fun x hx => ?_, g5⟩, h3, h4⟩
  have all : ∀ {l : List (NestedKey × V)} {m : List (NestedKey × Addr × Value)}, KN H l m → ∀ x ∈ m, (nestedKind P w).is h x.1 x.2.1 := by
    intro l m q
    induction q with
    | nil => intro x hx; exact nomatch hx
    | @cons p q ps qs hq t ih =>
      intro x hx
      rcases List.mem_cons.mp hx with e | hx
      · subst e
        exact ⟨NKey.is ok hq.2.1.1 rfl, hq.2.1.2⟩
      · exact ih x hx
  exact all h2 x hx
/-- what the dict at a holds at the key y -/
def DGetN (P : Program) (w : World) (H : Hp) (a : Addr) (y : V) (r : Option V) : Prop := ∃ kvs k b, NDictAt P w H a kvs ∧ y = .ref b ∧ NKey H k (.ref b) ∧ k.depth ≤ 8 ∧ r = valV kvs k
end
section
variable {X : Cx} {pins : List (Addr × Obj)} {σ : L2.St} {H : Hp} {s : Shared} {a : Addr} {y v : V} {u r : Value} {o : Option V} {A : Around} {E : Value → Shared → Prop}
theorem nroom (hu : A.units + 64 < cLine) : (nestedKind X.prog X.w).room A.in1 := by
  show A.units + 1 + 8 < cLine
  omega
theorem n_getItem {Q : Value → Shared → Prop} (hu : A.units + 64 < cLine) (I : Inv X pins σ H s) (g : DGetN X.prog X.w H a y (some v)) (ry : RelV y u) (h : ∀ w' s', Inv X pins σ H s' → RelV v w' → Q w' s') :
    wpAny (model X.prog X.w) A (getItem (.ref a) u) Q E s := by
  obtain ⟨kvs, k, b, e, ey, hk, h8, l⟩ := g
  subst ey
  cases (show u = Value.ref b from ry)
  obtain ⟨xs, _, rel, dd, z, hd⟩ := nd_of I.hok e
  obtain ⟨w', hw, rw'⟩ := RelO.some_of (v := v) (o := (atKey xs k).map (·.2)) (by rw [l]; exact KN.val rel k)
  obtain ⟨p, hp, hp2⟩ := Option.map_eq_some_iff.mp hw
  refine wpAny_getItem_heap (knd := nestedKind X.prog X.w) (nroom hu) ⟨NKey.is I.hok hk rfl, h8⟩ dd hp ?_
  rw [hp2]
  exact h w' _ (I.tok _) rw'
theorem n_in {Q : Value → Shared → Prop} (hu : A.units + 64 < cLine) (I : Inv X pins σ H s) (g : DGetN X.prog X.w H a y o) (ry : RelV y u) (h : ∀ s', Inv X pins σ H s' → Q (.bool o.isSome) s') :
    wpAny (model X.prog X.w) A (compareOp .In u (.ref a)) Q E s := by
  obtain ⟨kvs, k, b, e, ey, hk, h8, l⟩ := g
  subst ey
  cases (show u = Value.ref b from ry)
  obtain ⟨xs, _, rel, dd, z, hd⟩ := nd_of I.hok e
  refine wpAny_in_heap (knd := nestedKind X.prog X.w) (nroom hu) ⟨NKey.is I.hok hk rfl, h8⟩ hd dd ?_
  have q := (KN.val rel k).isSome_eq
  rw [Option.isSome_map] at q
  rw [← q, ← l]
  exact h _ (I.tok _)
theorem n_notIn {Q : Value → Shared → Prop} (hu : A.units + 64 < cLine) (I : Inv X pins σ H s) (g : DGetN X.prog X.w H a y o) (ry : RelV y u) (h : ∀ s', Inv X pins σ H s' → Q (.bool (!o.isSome)) s') :
    wpAny (model X.prog X.w) A (compareOp .NotIn u (.ref a)) Q E s := by
  obtain ⟨kvs, k, b, e, ey, hk, h8, l⟩ := g
  subst ey
  cases (show u = Value.ref b from ry)
  obtain ⟨xs, _, rel, dd, z, hd⟩ := nd_of I.hok e
  refine wpAny_notIn_heap (knd := nestedKind X.prog X.w) (nroom hu) ⟨NKey.is I.hok hk rfl, h8⟩ hd dd ?_
  have q := (KN.val rel k).isSome_eq
  rw [Option.isSome_map] at q
  rw [← q, ← l]
  exact h _ (I.tok _)
/-- a[y] = v: the heap behind it -/
def DPutN (P : Program) (w : World) (H : Hp) (a : Addr) (y v : V) (Q : Hp → Prop) : Prop := ∃ kvs k b, NDictAt P w H a kvs ∧ y = .ref b ∧ NKey H k (.ref b) ∧ k.depth ≤ 8 ∧ kvs.length < sizeLine ∧
  ∀ H', (∀ c, c ≠ a → H' c = H c) → NDictAt P w H' a (putK kvs k v) → Q H'
theorem nd_ok {P : Program} {w : World} {H' : Hp} {h' : Heap} {xs : List (NestedKey × Addr × Value)} (dd : h'.DictOfH (nestedKind P w) a xs) : ObjOk P w H' h' a (NdO P w a xs) := by
  obtain ⟨q, es, ep, hq, h2, h3, h4, _, h5⟩ := dd
  refine ⟨⟨q, es, ep, hq, h2, h3, h4, h5⟩, ⟨q, hq⟩, fun h1 h2' p k => ?_⟩
  obtain ⟨q, es, ep, hq, h2, h3, h4, h5⟩ := p
  exact ⟨q, es, ep, k _ hq, h2, h3, h4, h5⟩
theorem n_setItem {R : Hp → Prop} {Q : Unit → Shared → Prop} (hu : A.units + 64 < cLine) (I : Inv X pins σ H s) (g : DPutN X.prog X.w H a y v R) (ry : RelV y u) (rv : RelV v r) (h : ∀ H' s', Inv X pins σ H' s' → R H' → Q () s') :
    wpAny (model X.prog X.w) A (setItem (.ref a) u r) Q E s := by
  obtain ⟨kvs, k, b, e, ey, hk, h8, l, q⟩ := g
  subst ey
  cases (show u = Value.ref b from ry)
  obtain ⟨xs, hx, rel, dd, z, hd⟩ := nd_of I.hok e
  have hz : xs.length ≤ sizeLine := by rw [← Paired.length rel]; exact z
  have hl : (putK kvs k v).length ≤ sizeLine := by have := length_putK kvs k v; omega
  refine wpAny_setItem_heap (knd := nestedKind X.prog X.w) (hsz := hz) (nroom hu) ⟨NKey.is I.hok hk rfl, h8⟩ dd fun h' dd' hs => ?_
  have he : ∃ q, h'.get? a = some q := let ⟨q, _, _, hq, _⟩ := dd'; ⟨q, hq⟩
  have nt : ∀ c ys, H c = some (.tup ys) → c ≠ a := fun c ys ec => ne_of ec hx (fun z => nomatch z)
  have I' := d_write (t' := s.toks) (ob := NdO X.prog X.w a (storedH xs k b r)) I (by rw [hx]; exact True.intro) hs he (nd_ok dd')
  refine h _ _ (I'.tok _) (q _ (fun c hc => upd_ne hc) ⟨storedH xs k b r, upd_same, (KN.put rel k hk h8 rv).keeps fun c ys ec => ?_, hl, hd⟩)
  rw [upd_ne (nt c ys ec)]
  exact ec
end
/-! ### rules -/
/-- {} of such keys -/
def tDNewN (P : Program) (w : World) : TE := fun _ H Q => ∀ p H', H p = none → (∀ c, c ≠ p → H' c = H c) → NDictAt P w H' p [] → Q (.ref p) H'
def tDGetN (P : Program) (w : World) (td ty : TE) : TE := fun σ H Q => td σ H fun x H1 => ty σ H1 fun y H2 => ∃ a v, x = .ref a ∧ DGetN P w H2 a y (some v) ∧ Q v H2
def tDInN (P : Program) (w : World) (ty td : TE) : TE := fun σ H Q => ty σ H fun y H1 => td σ H1 fun x H2 => ∃ a o, x = .ref a ∧ DGetN P w H2 a y o ∧ Q (.bl o.isSome) H2
def tDNotInN (P : Program) (w : World) (ty td : TE) : TE := fun σ H Q => ty σ H fun y H1 => td σ H1 fun x H2 => ∃ a o, x = .ref a ∧ DGetN P w H2 a y o ∧ Q (.bl (!o.isSome)) H2
def sDPutN (P : Program) (w : World) (td ty tv : TE) : TS := fun D σ H => tv σ H fun v H1 => td σ H1 fun x H2 => ty σ H2 fun y H3 => ∃ a, x = .ref a ∧ DPutN P w H3 a y v fun H4 => D.nx σ H4
section
variable {X : Cx} {o i e value : Expr} {pos pos' tpos : Pos} {td ty tv : TE}
theorem pe_dnewN : PE X (.Dict [] [] pos) (tDNewN X.prog X.w) := ⟨fun pins s σ H Q I h => by
  have hn := I.hok.fresh (Nat.le_refl s.heap.objs.size)
  have nd : (s.heap.objs.size == sysModules) = false := beq_eq_false_iff_ne.mpr (Ne.symm (Nat.ne_of_lt I.big))
  refine wpAny_Dict_empty ⟨.ref s.heap.objs.size, _, I.laid (a := s.heap.objs.size) (o := NdO X.prog X.w s.heap.objs.size []) (t' := s.toks) (fun _ _ q => Heap.get?_push_of_some _ q) (Nat.le_refl _) ?_, rfl, h _ _ hn (fun c hc => upd_ne hc) ⟨[], upd_same, .nil, Nat.zero_le _, nd⟩⟩
  exact ⟨⟨_, #[], 0, Heap.get?_push_size _ rfl, ⟨rfl, rfl, rfl⟩, rfl, rfl, List.nodup_nil⟩, ⟨_, Heap.get?_push_size _ rfl⟩, fun h1 h2' p k => by
    obtain ⟨q, es, ep, hq, h2, h3, h4, h5⟩ := p
    exact ⟨q, es, ep, k _ hq, h2, h3, h4, h5⟩⟩⟩
theorem ndict_typeIs {pins : List (Addr × Obj)} {σ : L2.St} {H : Hp} {s : Shared} {a : Addr} {y : V} {o : Option V} (I : Inv X pins σ H s) (g : DGetN X.prog X.w H a y o) : s.TypeIs (.ref a) "dict" := by
  obtain ⟨kvs, k, b, e, _⟩ := g
  obtain ⟨xs, _, _, dd, _⟩ := nd_of I.hok e
  exact dd.typeIs
theorem pe_dgetN (hu : X.A.units + 64 < cLine) (ho : PE X o td) (hi : PE X i ty) (hs : NoSl i) : PE X (.Subscript o i pos) (tDGetN X.prog X.w td ty) := by
  refine ⟨fun pins s σ H Q I h => ?_⟩
  refine subD_of PySem.F.slot_dict_getitem.lookup hs (thn (ho.run pins s σ H _ I h) fun u s1 ⟨x, H1, I1, rx, q1⟩ => thn (hi.run pins s1 σ H1 _ I1 q1) fun iv s2 ⟨y, H2, I2, ry, a, v, ex, g, q2⟩ => ?_)
  subst ex
  obtain rfl : u = Value.ref a := rx
  exact ⟨ndict_typeIs I2 g, n_getItem hu I2 g ry fun w' s3 I3 rw' => ⟨v, H2, I3, rw', q2⟩⟩
theorem pc_dinN (hu : X.A.units + 64 < cLine) (hi : PE X i ty) (ho : PE X o td) : PC X .In i o (tDInN X.prog X.w ty td) := by
  refine ⟨fun pins s σ H Q I h => ?_⟩
  refine thn (hi.run pins s σ H _ I h) fun iv s1 ⟨y, H1, I1, ry, q1⟩ => thn (ho.run pins s1 σ H1 _ I1 q1) fun u s2 ⟨x, H2, I2, rx, a, ov, ex, g, q2⟩ => ?_
  subst ex
  obtain rfl : u = Value.ref a := rx
  exact n_in hu I2 g ry fun s3 I3 => ⟨.bl ov.isSome, H2, I3, rfl, q2⟩
theorem pc_dnotinN (hu : X.A.units + 64 < cLine) (hi : PE X i ty) (ho : PE X o td) : PC X .NotIn i o (tDNotInN X.prog X.w ty td) := by
  refine ⟨fun pins s σ H Q I h => ?_⟩
  refine thn (hi.run pins s σ H _ I h) fun iv s1 ⟨y, H1, I1, ry, q1⟩ => thn (ho.run pins s1 σ H1 _ I1 q1) fun u s2 ⟨x, H2, I2, rx, a, ov, ex, g, q2⟩ => ?_
  subst ex
  obtain rfl : u = Value.ref a := rx
  exact n_notIn hu I2 g ry fun s3 I3 => ⟨.bl (!ov.isSome), H2, I3, rfl, q2⟩
theorem ps_dputN (hu : X.A.units + 64 < cLine) (ho : PE X o td) (hi : PE X i ty) (hv : PE X value tv) (hs : swapsWith value (some (.Subscript o i pos')) pos.line X.env = pure false) :
    PS X (.Assign [.Subscript o i pos'] value pos) (sDPutN X.prog X.w td ty tv) := by
  refine ⟨fun pins s σ H D I h => ?_⟩
  refine wpAny_Assign_Subscript (thn (hv.run pins s σ H _ I h) fun r s1 ⟨v, H1, I1, rv, q1⟩ => thn (ho.run pins s1 σ H1 _ I1 q1) fun u s2 ⟨x, H2, I2, rx, q2⟩ => thn (hi.run pins s2 σ H2 _ I2 q2) fun iv s3 ⟨y, H3, I3, ry, a, ex, g⟩ => ?_) hs
  subst ex
  obtain rfl : u = Value.ref a := rx
  exact n_setItem hu I3 g ry rv fun H4 s4 I4 q4 => ⟨σ, H4, I4, q4⟩
end
end TCX
/-! Dicts whose keys are tuples: their items walked, comprehensions that make such dicts. -/
namespace TCX
open PySem PySem.Spec PyProof.Rows L2
section
variable {X : Cx} {pins : List (Addr × Obj)} {σ : L2.St} {H : Hp} {s : Shared} {d : Addr} {o : Obj}
/-- the entries of a locked dict of tuple keys, with their values -/
theorem frzTV {kvs : List (List Key × V)} (I : Inv X pins σ H s) (h : H d = some (.frz o (.dT kvs))) :
    (d == sysModules) = false ∧ ∃ (es : Array DictEntry) (ep : Nat), o.data = .dict es ep ∧ s.heap.DictRaw d es ep ∧ es.size = kvs.length ∧
      ∀ (i : Nat) (k : List Key) (v : V), kvs[i]? = some (k, v) → ∃ (hi : i < es.size) (q : Addr), es[i].key = .ref q ∧ H q = some (.tup (k.map kV)) ∧ RelV v es[i].val := by
  have hok := I.hok d _ h
  obtain ⟨g0, z, hs, xs, pr, o', es, ep, ho, hx, hdt, he, _⟩ := hok
  rw [g0] at ho
  cases ho
  have sz : es.size = kvs.length := by
    have l1 : es.size = xs.length := size_of_entries he
    have l2 : kvs.length = xs.length := Paired.length pr
    omega
  refine ⟨hs, es, ep, hdt, ⟨o, g0, hx, hdt⟩, sz, fun i k v e => ?_⟩
  obtain ⟨b, hb, e1, e2, e3⟩ := paired_get pr e
  have q := entry_at he i
  rw [hb] at q
  obtain ⟨hi, q2⟩ := Array.getElem?_eq_some_iff.mp q
  exact ⟨hi, b.2.1, by rw [q2] <;> rfl, e2, by rw [q2]; exact e3⟩
end
/-- for (k, v) of a locked dict of tuple keys: each time a new pair of the key's own tuple and its value -/
def Itit (d : Addr) (o : Obj) (kvs : List (List Key × V)) : It where
  go := fun i H => H d = some (.frz o (.dT kvs)) ∧ i < kvs.length
  yld := fun i H x H' => ∃ (T : Addr) (k : List Key) (v : V) (q : Addr), kvs[i]? = some (k, v) ∧ x = .ref T ∧ H T = none ∧ H q = some (.tup (k.map kV)) ∧ H' = upd H T (.tup [.ref q, v])
  stop := fun i H => H d = some (.frz o (.dT kvs)) ∧ kvs.length ≤ i
theorem turn_itemsT {P : Program} {w : World} {K : PySem.W.Frag} {d : Addr} {o : Obj} {kvs : List (List Key × V)} {elts : List Expr} {kk : Nat} {tpos : Pos} {ep : Nat} {es : Array DictEntry} (J : Addr) (dat : o.data = .dict es ep) (sz : es.size = kvs.length) :
    Turn P w K (.Tuple elts kk tpos) (Itit d o kvs) [J] J (fun i h => ∃ u1 u2, IsItemIter h J d i es.size ep u1 u2) := by
  have same : ∀ {es' : Array DictEntry} {ep' : Nat}, o.data = .dict es' ep' → es' = es ∧ ep' = ep := fun z => by
    rw [dat] at z
    cases z
    exact ⟨rfl, rfl⟩
  refine ⟨by simp, fun i h st b hb => ?_, fun i h h' st k => ?_, ?_, ?_, fun A i s Q E st h => ?_⟩
  · obtain rfl : b = J := by simpa using hb
    obtain ⟨u1, u2, e⟩ := st
    exact ⟨_, e, fun v z => nomatch z⟩
  · obtain ⟨u1, u2, e⟩ := st
    exact ⟨u1, u2, k J (by simp) _ e⟩
  · intro X h1 h2 h3 calm i pins s σ H E I fp st go
    subst h1 h2 h3
    obtain ⟨hd, hi⟩ := go
    obtain ⟨ns, es2, ep2, dat2, raw, _, ent⟩ := frzTV I hd
    obtain ⟨rfl, rfl⟩ := same dat2
    obtain ⟨⟨k, v⟩, hkv⟩ : ∃ p, kvs[i]? = some p := ⟨kvs[i], List.getElem?_eq_getElem hi⟩
    obtain ⟨hi2, q, ek, eq, ev⟩ := ent i k v hkv
    obtain ⟨u1, u2, hit⟩ := st
    have lt : J < s.heap.objs.size := Heap.lt_size hit
    refine wpAny_pyNext_items_item_raw hit raw hi2 fun g1 out new1 _ kp => ⟨_, rfl, wpAny_letOwnedTupleGo_items (s := { s with heap := g1 }) out fun g2 hit2 sb => ?_⟩
    have new2 := (sb.2 _ (Nat.ne_of_gt lt)).trans new1
    have ok2 : ObjOk X.prog X.w (upd H s.heap.objs.size (.tup [.ref q, v])) g2 s.heap.objs.size (.tup [.ref q, v]) :=
      ⟨by show 2 ≤ sizeLine; decide, [es2[i].key, es2[i].val], .cons ek (.cons ev .nil), ⟨_, new2, rfl, _, rfl⟩⟩
    have I2 := I.turnedNew (t' := s.toks) (ch := [J]) (fun b ob hb e => (sb.2 b (by simpa using hb)).trans (kp b ob (by simpa using hb) e)) fp (Nat.le_refl _) ok2
    refine ⟨.ref s.heap.objs.size, _, I2, rfl, ⟨_, k, v, q, hkv, rfl, I.hok.fresh (Nat.le_refl _), eq, rfl⟩, ⟨_, _, hit2⟩, fun b hb => ?_⟩
    obtain rfl : b = J := by simpa using hb
    rw [upd_ne (Nat.ne_of_lt lt)]
    exact (fp b (by simp)).1
  · intro X h1 h2 h3 calm i pins s σ H E I fp st stop
    subst h1 h2 h3
    obtain ⟨hd, hi⟩ := stop
    obtain ⟨f0, f1, f2, f3, f4, f5⟩ := fp J (by simp)
    obtain ⟨ns, es2, ep2, dat2, raw, _, ent⟩ := frzTV I hd
    obtain ⟨rfl, rfl⟩ := same dat2
    obtain ⟨u1, u2, hit⟩ := st
    exact wpAny_pyNext_items_end_raw (I.ok.hd calm) hit raw (by omega) fun g eb => ⟨rfl, I.turned (t' := s.toks) (fun b ob hb e => eb b ob hb e) f0 f1 f3 f4 f5⟩
  · obtain ⟨_, _, e⟩ := st
    exact PySem.W.kcp_self e h
/-- d.items() of a locked dict of tuple keys -/
def iItemsT (td : TE) : TI := fun σ H R => td σ H fun x H1 => ∃ d o kvs, x = .ref d ∧ H1 d = some (.frz o (.dT kvs)) ∧ R (Itit d o kvs) H1
theorem pi_itemsT {X : Cx} {e : Expr} {td : TE} {apos cpos : Pos} {elts : List Expr} {kk : Nat} {tpos : Pos} (he : PE X e td) (hb : attributeBase e "items" X.env (eval e X.env) = eval e X.env := by rfl) (hl : (apos.endLine == cpos.line) = true := by rfl) :
    PI X (.Tuple elts kk tpos) (.Call (.Attribute e "items" apos) [] [] cpos) (iItemsT td) := by
  refine ⟨fun pins s σ H R I h => wpAny_Call_method (T := "dict") (id := "dict.items") hb rfl hl F.plainAttrs_dict F.slot_dict_items F.type_dict_items (thn (he.run pins s σ H _ I h) fun u s1 z => ?_)⟩
  obtain ⟨x, H1, I1, rx, d, o, kvs, ex, hd, q⟩ := z
  subst ex
  obtain rfl : u = Value.ref d := rx
  obtain ⟨ns, es, ep, dat, raw, sz, _⟩ := frzTV I1 hd
  obtain ⟨ob, ho, hx, hdat⟩ := id raw
  refine ⟨⟨ob, ho, hx.1⟩, fun ob' ho' => ?_, ?_⟩
  · cases ho'
    exact ⟨ob, ho, hx.2.1⟩
  have I2 : Inv X pins σ H1 { s1 with heap := s1.heap.push { cls := .type "dict_items", data := .fields #[.ref d] } } := I1.kept (t' := s1.toks) fun b ob q => Heap.get?_push_of_some _ q
  have raw2 : (s1.heap.push { cls := .type "dict_items", data := .fields #[.ref d] }).DictRaw d es ep := ⟨ob, Heap.get?_push_of_some _ ho, hx, hdat⟩
  have fin : wpAny (model X.prog X.w) X.A (pyIter (.ref s1.heap.objs.size)) (PIE X pins σ (.Tuple elts kk tpos) R) X.xe { s1 with heap := s1.heap.push { cls := .type "dict_items", data := .fields #[.ref d] } } :=
    wpAny_pyIter_items_raw (d := d) ⟨_, Heap.get?_push_size _ rfl, rfl, rfl⟩ raw2 (pi_one (tk := s1.toks) I2 _ (turn_itemsT _ dat sz) ⟨.none, .none, Heap.get?_push_size _ rfl⟩ q)
  exact method_meetsIn F.slot_dict_items F.entry_dict_items rfl (PySem.evalArgs_none ⟨rfl, ⟨ob, ho, hx.1⟩, F.args_dict_items_1 _, _, meets_dict_items_raw d ns, ⟨es, ep, raw⟩, fin⟩)
end TCX
/-! Dict comprehensions whose keys are tuples. -/
namespace TCX
open PySem PySem.Spec PyProof.Rows L2
/-- how a new dict starts, and what a store into it does -/
structure Puts (P : Program) (w : World) (A : Around) (o0 : HO) (put : Addr → V → V → Hp → (Hp → Prop) → Prop) : Prop where
  new : ∀ (h : Heap) (H : Hp), sysModules < h.objs.size → ObjOk P w H (h.push { cls := .type "dict", data := .dict #[] }) h.objs.size o0
  set : ∀ (Y : Cx), Y.prog = P → Y.w = w → ∀ {pins : List (Addr × Obj)} {σ : L2.St} {H : Hp} {s : Shared} {D : Addr} {y z : V} {u r : Value} {R : Hp → Prop} {Q : Unit → Shared → Prop} {E : Value → Shared → Prop}, Inv Y pins σ H s → RelV y u → RelV z r → put D y z H R →
    (∀ H' s', Inv Y pins σ H' s' → R H' → Q () s') → wpAny (model P w) A (dictSet D u r) Q E s
/-- {k: v for target in iter if ..}: D the new dict -/
def tDcG (o0 : HO) (put : Addr → V → V → Hp → (Hp → Prop) → Prop) (wi : TI) (g : TG) (tt : TT) (tk tv : TE) (vs : List Nat) : TE := fun σ H Q => wi σ H fun J H1 => ∀ D, H1 D = none → ∃ W : Nat → Nat → Hp → Prop, (∃ m, W 0 m (upd H1 D o0)) ∧ ∀ i m H, W i m H →
  (J.stop i H ∧ Q (.ref D) H) ∨ (J.go i H ∧ ∃ Nx : Hp → Prop, (∀ H', Nx H' → ∃ m', m' < m ∧ W (i + 1) m' H') ∧ ∀ x H', J.yld i H x H' →
    g x (wipe σ vs) H' fun σ2 H2 => wipe σ2 vs = wipe σ vs ∧ tt σ2 H2 fun b H3 => if b = true then tk σ2 H3 fun y H4 => tv σ2 H4 fun z H5 => put D y z H5 Nx else Nx H3)
section
variable {X : Cx} {o0 : HO} {put : Addr → V → V → Hp → (Hp → Prop) → Prop} {kx vx tg iter : Expr} {ifs : List Expr} {scope : Scope} {own : List (Str × Nat)} {wi : TI} {g : TG} {tt : TT} {tk tv : TE}
theorem pe_dcG {pos : Pos} (B : Puts X.prog X.w X.A o0 put) (calm : X.calm = true) (nd : X.N.Nodup) (hi : PI X tg iter wi) (ok : BlkOk X.N X.env.scope scope own)
    (hg : ∀ (z : Shared) (G : Hp) (C : Addr) (cl : List (Str × Addr)) (fp : List Addr), PG (X.blk z G scope (compEnvC scope cl C X.env) fp) tg g)
    (ht : ∀ (z : Shared) (G : Hp) (C : Addr) (cl : List (Str × Addr)) (fp : List Addr), PTs (X.blk z G scope (compEnvC scope cl C X.env) fp) ifs tt)
    (hk : ∀ (z : Shared) (G : Hp) (C : Addr) (cl : List (Str × Addr)) (fp : List Addr), PE (X.blk z G scope (compEnvC scope cl C X.env) fp) kx tk)
    (hv : ∀ (z : Shared) (G : Hp) (C : Addr) (cl : List (Str × Addr)) (fp : List Addr), PE (X.blk z G scope (compEnvC scope cl C X.env) fp) vx tv)
    (hs : ∀ x, foldedSetIterable iter X.env x = pure x := by intro _; rfl) :
    PE X (.DictComp kx vx [⟨tg, iter, ifs, 0⟩] scope pos) (tDcG o0 put wi g tt tk tv (own.map (·.2))) := by
  refine ⟨fun pins s σ H Q I h => ?_⟩
  rw [arm_eval_DictComp]
  have cells : ∀ y ∈ scope.names, y.2 = .free → ∃ c, X.env.cells.lookup y.1 = some c := fun y hy e => (ok.free y hy e).elim (fun k => I.ok.has _ (.inl k)) fun k => I.ok.has _ (.inr k)
  refine wpAny_comprehension_free rfl hs (closure_ok cells) ok.kind (fun y hy e => by rw [ok.uniq y hy, e]) (thn (hi.run pins s σ H _ I h) fun xv z1 hx => thn hx fun itv z2 h2 => ?_)
  obtain ⟨it, fp, tn, J, H2, e, I2, T, st2, f2, q⟩ := h2
  subst e
  refine wpAny_newObj_type (newEnv_comp ?_)
  have Dn : H2 z2.heap.objs.size = none := I2.hok.fresh (Nat.le_refl _)
  obtain ⟨W, ⟨m0, w0⟩, turn⟩ := q _ Dn
  have I3 : Inv X pins σ (upd H2 z2.heap.objs.size o0) { z2 with heap := z2.heap.push { cls := .type "dict", data := .dict #[] } } := I2.laid (t' := z2.toks) (fun b o e => Heap.get?_push_of_some _ e) (Nat.le_refl _) (B.new z2.heap _ I2.big)
  have small : ∀ b ∈ fp, b < z2.heap.objs.size := fun b hb => let ⟨o, e, _⟩ := T.obj _ _ st2 b hb; Heap.lt_size e
  generalize eD : z2.heap.objs.size = D at *
  generalize eG : upd H2 D o0 = G at *
  generalize e3 : ({ z2 with heap := z2.heap.push { cls := .type "dict", data := .dict #[] } } : Shared) = z3 at *
  have h3 : z3.heap = z2.heap.push { cls := .type "dict", data := .dict #[] } := by rw [← e3]
  have f3 : ∀ b ∈ fp, FpOk X pins G b ∧ b < z3.heap.objs.size := fun b hb => by
    refine ⟨⟨?_, (f2 b hb).2⟩, by rw [h3, Heap.size_push, eD]; exact Nat.lt_succ_of_lt (small b hb)⟩
    rw [← eG, upd_ne (Nat.ne_of_lt (small b hb))]
    exact (f2 b hb).1
  have st3 : tn 0 z3.heap := T.keep _ _ _ st2 fun b _ o e => by rw [h3]; exact Heap.get?_push_of_some _ e
  have I4 := block_start I3 ok nd f3
  have pg := hg z3 G z3.heap.objs.size (cellsFrom (z3.heap.objs.size + 1) scope.names (cloFrom X.env.cells scope.names [])) fp
  have pt := ht z3 G z3.heap.objs.size (cellsFrom (z3.heap.objs.size + 1) scope.names (cloFrom X.env.cells scope.names [])) fp
  have pk := hk z3 G z3.heap.objs.size (cellsFrom (z3.heap.objs.size + 1) scope.names (cloFrom X.env.cells scope.names [])) fp
  have pv := hv z3 G z3.heap.objs.size (cellsFrom (z3.heap.objs.size + 1) scope.names (cloFrom X.env.cells scope.names [])) fp
  show codeAny _ _ (.compStart (.DictComp kx vx [⟨tg, iter, ifs, 0⟩] scope pos) 0 (.ref it) (.ref D) (compEnvC scope (cellsFrom (z3.heap.objs.size + 1) scope.names (cloFrom X.env.cells scope.names [])) z3.heap.objs.size X.env)) (compPost (model X.prog X.w) X.A X.xe none (EP X pins σ Q) (.ref D) z3.heap.objs.size) { z3 with heap := pushCells (z3.heap.push { cls := .type "dict", data := .dict #[] }) scope.names }
  have clear : ∀ b ∈ fp, G b = none := fun b hb => (f3 b hb).1.1
  generalize eE : compEnvC scope (cellsFrom (z3.heap.objs.size + 1) scope.names (cloFrom X.env.cells scope.names [])) z3.heap.objs.size X.env = ce at I4 pg pt pk pv ⊢
  have locE : ce.locals = z3.heap.objs.size := by rw [← eE] <;> rfl
  generalize e4 : ({ z3 with heap := pushCells (z3.heap.push { cls := .type "dict", data := .dict #[] }) scope.names } : Shared) = z4 at I4 ⊢
  have st4 : tn 0 z4.heap := T.keep _ _ _ st3 fun b _ o e => by rw [← e4]; exact pushCells_keeps _ _ _ _ (Heap.get?_push_of_some _ e)
  have still : ∀ {ρ : L2.St} {M : Hp} {y : Shared}, Inv (X.blk z3 G scope ce fp) [] ρ M y → (∀ b ∈ fp, M b = none) → ∀ b ∈ fp, FpOk (X.blk z3 G scope ce fp) [] M b := fun I' hn b hb =>
    ⟨hn b hb, (I'.ok.exf b hb).1, I'.ok.exfs b hb, .inl hb, fun x c e => (I'.ok.exf b hb).2 x c e, fun p hp => absurd (show p ∈ ([] : List (Addr × Obj)) ++ [] from hp) (by simp)⟩
  have loop : codeAny (model X.prog X.w) X.A (.compLoop (.DictComp kx vx [⟨tg, iter, ifs, 0⟩] scope pos) 0 (.ref it) (.ref D) ce) (compPost (model X.prog X.w) X.A X.xe none (EP X pins σ Q) (.ref D) z3.heap.objs.size) z4 := by
    refine compLoop_anyD (fun n y => ∃ i M, Inv (X.blk z3 G scope ce fp) [] (wipe σ (own.map (·.2))) M y ∧ tn i y.heap ∧ (∀ b ∈ fp, M b = none) ∧ W i n M) (fun n y5 hy => ?_) m0 ⟨0, G, I4, st4, clear, w0⟩
    obtain ⟨i, M5, I5, st5, n5, w5⟩ := hy
    rcases turn i n M5 w5 with ⟨stop, qq⟩ | ⟨go, Nx, hNx, step⟩
    · refine thnF (T.done (X.blk z3 G scope ce fp) rfl rfl rfl calm i [] y5 _ M5 (fun _ _ => False) I5 (still I5 n5) st5 stop) fun r y6 ⟨er, I6⟩ => ?_
      subst er
      have I7 : Inv X pins σ M5 y6 := I3.call' (ch := fp) I6.os I6.base I6.hok I6.bare fun b hb => let F := (f3 b hb).1.2; ⟨F.2.2.1, F.1, F.2.2.2.1, F.2.2.2.2⟩
      have freeC : M5 z3.heap.objs.size = none := by
        have z : M5 ce.locals = none := I6.free
        rw [locE] at z
        exact z
      obtain ⟨m, hn, _⟩ := I6.loc
      have hn2 : y6.heap.Ns ce.locals m := hn
      rw [locE] at hn2
      refine ⟨m, hn2, fun g' sb => ?_⟩
      obtain ⟨f0, f1, f2', f3', f4, f5⟩ := I3.fpOk (Nat.le_refl _) freeC
      exact ⟨.ref D, M5, I7.turned (t' := y6.toks) (fun b o hb e => (sb.2 b hb).trans e) f0 f1 f3' f4 f5, rfl, qq⟩
    · refine thnF (T.item (X.blk z3 G scope ce fp) rfl rfl rfl calm i [] y5 _ M5 (fun _ _ => False) I5 (still I5 n5) st5 go) fun r y6 ⟨u, er, h6⟩ => ?_
      subst er
      refine thnF h6 fun _ y7 ⟨x, M7, I7, r7, yl, st7, n7⟩ => ?_
      refine thnF (pg.run _ y7 _ M7 x u _ (I7.pinned (still I7 n7) (T.obj _ _ st7)) r7 (step x M7 yl)) fun _ y8 ⟨ρ, M8, I8, hw, q8⟩ => ?_
      refine thnF (pt.run _ y8 ρ M8 _ I8 q8) fun b y9 ⟨M9, I9, q9⟩ => ?_
      have fin : ∀ {y : Shared} {M : Hp}, Inv (X.blk z3 G scope ce fp) ([] ++ pinsAt fp y7.heap) ρ M y → Nx M → ∃ m, m < n ∧ ∃ i M, Inv (X.blk z3 G scope ce fp) [] (wipe σ (own.map (·.2))) M y ∧ tn i y.heap ∧ (∀ b ∈ fp, M b = none) ∧ W i m M := fun {y M} I' nx => by
        obtain ⟨m', hm, w'⟩ := hNx M nx
        have keep : ∀ b ∈ fp, ∀ o, y7.heap.get? b = some o → y.heap.get? b = some o ∧ M b = none := fun b hb o e => by
          have z := I'.pin (b, o) (List.mem_append_right _ (List.mem_append_right _ (mem_pinsAt hb e)))
          exact ⟨z.1, z.2.1⟩
        have len : (wipe σ (own.map (·.2))).length = ρ.length := by rw [← hw, wipe_length]
        refine ⟨m', hm, i + 1, M, (I'.unpinned (pins := [])).weak len (fun j v e => ?_), T.keep _ _ _ st7 fun b hb o e => (keep b hb o e).1, fun b hb => ?_, w'⟩
        · rw [← hw] at e
          exact (wipe_some e).1
        · obtain ⟨o, e, _⟩ := T.obj _ _ st7 b hb
          exact (keep b hb o e).2
      cases b with
      | false =>
        simp only [Bool.false_eq_true, if_false] at q9 ⊢
        exact fin I9 q9
      | true =>
        simp only [if_true] at q9 ⊢
        exact thnF (pk.run _ y9 ρ M9 _ I9 q9) fun z y10 ⟨yk, M10, I10, r10, q10⟩ => thnF (pv.run _ y10 ρ M10 _ I10 q10) fun z2 y11 ⟨yv, M11, I11, r11, pz⟩ =>
          B.set (X.blk z3 G scope ce fp) rfl rfl I11 r10 r11 pz fun M12 y12 I12 nx => fin I12 nx
  exact codeAny_compStart_dict loop (T.self X.A 0 _ _ _ st4 loop)
end
/-! ### tuple keys -/
/-- a store into a dict whose keys are tuples of ints and texts -/
def putT (D : Addr) (y z : V) (H : Hp) (R : Hp → Prop) : Prop := ∃ (kvs : List (List Key × V)) (k : List Key) (b : Addr), y = .ref b ∧ H D = some (.dT kvs) ∧ H b = some (.tup (k.map kV)) ∧ kvs.length < sizeLine ∧ R (upd H D (.dT (putK kvs k z)))
theorem puts_T {P : Program} {w : World} {A : Around} (hu : A.units + 1 < cLine) : Puts P w A (.dT []) putT where
  new := fun h H hb => dt_empty h hb
  set := fun Y e1 e2 {pins σ H s D y z u r R Q E} I ry rz hp h => by
    subst e1 e2
    obtain ⟨kvs, k, b, ey, hD, hb, hl, q⟩ := hp
    subst ey
    cases (show u = Value.ref b from ry)
    obtain ⟨sz, ns, xs, rel, dd⟩ := dt_of I.hok hD
    have sx : xs.length ≤ sizeLine := by rw [← Paired.length rel]; exact sz
    have sp : (putK kvs k z).length ≤ sizeLine := by have := length_putK kvs k z; omega
    refine wpAny_dictSet_heap (hsz := sx) (show A.units < cLine by omega) (key_of I.hok hb) dd fun h' dd' hs => h _ _ ?_ q
    obtain ⟨o, es, ep, ho, d2, d3, d4, _, d5⟩ := dd'
    refine d_write I (by rw [hD]; exact True.intro) hs ⟨o, ho⟩ ⟨sp, ns, _, (rel.put k hb rz).keeps fun c ys ec => ?_, o, es, ep, ho, d2, d3, d4, d5⟩
    rw [upd_ne (ne_of ec hD (fun v => nomatch v))]
    exact ec
theorem walk_itemsT {d : Addr} {o : Obj} {kvs : List (List Key × V)} : Walk (Itit d o kvs) kvs.length (fun H => H d = some (.frz o (.dT kvs)))
    (fun i H x H' => ∃ (T : Addr) (k : List Key) (v : V) (q : Addr), kvs[i]? = some (k, v) ∧ x = .ref T ∧ H T = none ∧ H q = some (.tup (k.map kV)) ∧ H' = upd H T (.tup [.ref q, v])) :=
  ⟨fun _ _ hi q => ⟨q, hi⟩, fun _ q => ⟨q, Nat.le_refl _⟩, fun _ _ _ _ _ _ y => y⟩
section
variable {J : It} {n : Nat} {G : Hp → Prop} {Y : Nat → Hp → V → Hp → Prop} {o0 : HO} {put : Addr → V → V → Hp → (Hp → Prop) → Prop}
/-- the reading of such a comprehension over a walk -/
theorem dcg_it (w : Walk J n G Y) {g : TG} {tt : TT} {tk tv : TE} {vs : List Nat} {σ : L2.St} {H1 : Hp} {D : Addr} {Qd : Hp → Prop} (Pv : Nat → Hp → Prop) (h0 : Pv 0 (upd H1 D o0)) (hG : ∀ i H, i ≤ n → Pv i H → G H)
    (hs : ∀ i x H H', i < n → Pv i H → Y i H x H' → g x (wipe σ vs) H' fun σ2 H2 => wipe σ2 vs = wipe σ vs ∧ tt σ2 H2 fun b H3 =>
      if b = true then tk σ2 H3 fun y H4 => tv σ2 H4 fun z H5 => put D y z H5 (Pv (i + 1)) else Pv (i + 1) H3) (hd : ∀ H, Pv n H → Qd H) :
    ∃ W : Nat → Nat → Hp → Prop, (∃ m, W 0 m (upd H1 D o0)) ∧ ∀ i m H, W i m H →
      (J.stop i H ∧ Qd H) ∨ (J.go i H ∧ ∃ Nx : Hp → Prop, (∀ H', Nx H' → ∃ m', m' < m ∧ W (i + 1) m' H') ∧ ∀ x H', J.yld i H x H' → g x (wipe σ vs) H' fun σ2 H2 => wipe σ2 vs = wipe σ vs ∧ tt σ2 H2 fun b H3 =>
        if b = true then tk σ2 H3 fun y H4 => tv σ2 H4 fun z H5 => put D y z H5 Nx else Nx H3) := by
  refine ⟨fun i m H => i ≤ n ∧ m = n - i ∧ Pv i H, ⟨n, Nat.zero_le _, rfl, h0⟩, fun i m H h => ?_⟩
  obtain ⟨hi, rfl, p⟩ := h
  have q := hG i H hi p
  rcases Nat.lt_or_ge i n with hlt | hge
  · exact .inr ⟨w.goes i H hlt q, Pv (i + 1), fun H' p' => ⟨n - (i + 1), by omega, hlt, rfl, p'⟩, fun x H' y => hs i x H H' hlt p (w.yields i H x H' hlt q y)⟩
  · obtain rfl : i = n := by omega
    exact .inl ⟨w.stops H q, hd H p⟩
end
end TCX
/-! Dicts with keys of any kind that is told as tuples of ints: contents as a list of keys and a function. -/
namespace TCX
open PySem PySem.Spec PyProof.Rows L2
section
variable {κ : Type} [DecidableEq κ]
/-- the keys in their order, one more behind if it is new -/
def addK (ks : List κ) (r : κ) : List κ := if r ∈ ks then ks else ks ++ [r]
theorem addK_len (ks : List κ) (r : κ) : (addK ks r).length ≤ ks.length + 1 := by
  unfold addK
  split
  · exact Nat.le_succ _
  · rw [List.length_append, List.length_singleton]
    exact Nat.le_refl _
theorem mem_addK {ks : List κ} {r s : κ} : s ∈ addK ks r ↔ s ∈ ks ∨ s = r := by
  unfold addK
  split
  · rename_i h
    exact ⟨.inl, fun z => z.elim id fun e => e ▸ h⟩
  · simp
theorem nd_addK {ks : List κ} {r : κ} (h : ks.Nodup) : (addK ks r).Nodup := by
  unfold addK
  split
  · exact h
  · rename_i z
    rw [List.nodup_append]
    refine ⟨h, by simp, fun a ha b hb => ?_⟩
    rw [List.mem_singleton.mp hb]
    exact fun e => z (e ▸ ha)
def setVal (f : κ → V) (r : κ) (v : V) : κ → V := fun s => if s = r then v else f s
/-- the entries -/
def entT (kk : κ → List Key) (ks : List κ) (f : κ → V) : List (List Key × V) := ks.map fun k => (kk k, f k)
theorem entT_len (kk : κ → List Key) (ks : List κ) (f : κ → V) : (entT kk ks f).length = ks.length := List.length_map _
theorem entT_congr {kk : κ → List Key} {ks : List κ} {f g : κ → V} (h : ∀ k ∈ ks, f k = g k) : entT kk ks f = entT kk ks g := List.map_congr_left fun k hk => by rw [h k hk]
variable {kk : κ → List Key} (inj : ∀ a b, kk a = kk b → a = b)
include inj
theorem val_entT {f : κ → V} {r : κ} : ∀ {ks : List κ}, valV (entT kk ks f) (kk r) = if r ∈ ks then some (f r) else none
  | [] => rfl
  | a :: ks => by
    show valV ((kk a, f a) :: entT kk ks f) (kk r) = _
    by_cases e : a = r
    · rw [valV_pos (by rw [e]), e, if_pos (List.mem_cons_self)]
    · rw [valV_neg fun z => e (inj _ _ z), val_entT]
      have : (r ∈ a :: ks) ↔ r ∈ ks := ⟨fun z => (List.mem_cons.mp z).resolve_left fun y => e y.symm, List.mem_cons_of_mem _⟩
      by_cases h : r ∈ ks
      · rw [if_pos h, if_pos (this.mpr h)]
      · rw [if_neg h, if_neg (fun z => h (this.mp z))]
theorem put_entT {ks : List κ} {f : κ → V} {r : κ} {v : V} : putK (entT kk ks f) (kk r) v = entT kk (addK ks r) (setVal f r v) := by
  unfold putK addK
  have hany : ((entT kk ks f).any fun kv => decide (kv.1 = kk r)) = decide (r ∈ ks) := by
    rw [valV_any, val_entT inj]
    by_cases h : r ∈ ks
    · rw [if_pos h, decide_eq_true h]
      rfl
    · rw [if_neg h, decide_eq_false h]
      rfl
  rw [hany]
  by_cases h : r ∈ ks
  · rw [if_pos (decide_eq_true h), if_pos h]
    unfold entT
    rw [List.map_map]
    refine List.map_congr_left fun k _ => ?_
    show (if kk k = kk r then (kk k, v) else (kk k, f k)) = (kk k, setVal f r v k)
    unfold setVal
    by_cases e : k = r
    · rw [if_pos (by rw [e]), if_pos e]
    · rw [if_neg fun z => e (inj _ _ z), if_neg e]
  · rw [if_neg (by rw [decide_eq_false h]; exact Bool.false_ne_true), if_neg h]
    unfold entT
    rw [List.map_append]
    congr 1
    · refine List.map_congr_left fun k hk => ?_
      show (kk k, f k) = (kk k, if k = r then v else f k)
      rw [if_neg fun (e : k = r) => h (e ▸ hk)]
    · show [(kk r, v)] = [(kk r, if r = r then v else f r)]
      rw [if_pos rfl]
theorem nd_entT {ks : List κ} {f : κ → V} (h : ks.Nodup) : ((entT kk ks f).map (·.1)).Nodup := by
  unfold entT
  rw [List.map_map]
  exact List.pairwise_map.mpr (h.imp fun {a b} z e => z (inj _ _ e))
theorem dget_entT {H : Hp} {d b : Addr} {ks : List κ} {f : κ → V} {r : κ} (e : H d = some (.dT (entT kk ks f))) (eb : H b = some (.tup ((kk r).map kV))) : DGet H d (.ref b) (if r ∈ ks then some (f r) else none) := by
  have z := DGet.t (k := kk r) e eb
  rw [val_entT inj] at z
  exact z
theorem dget_entT_in {H : Hp} {d b : Addr} {ks : List κ} {f : κ → V} {r : κ} (e : H d = some (.dT (entT kk ks f))) (eb : H b = some (.tup ((kk r).map kV))) (h : r ∈ ks) : DGet H d (.ref b) (some (f r)) := by
  have z := dget_entT inj e eb
  rw [if_pos h] at z
  exact z
theorem dget_entT_out {H : Hp} {d b : Addr} {ks : List κ} {f : κ → V} {r : κ} (e : H d = some (.dT (entT kk ks f))) (eb : H b = some (.tup ((kk r).map kV))) (h : r ∉ ks) : DGet H d (.ref b) none := by
  have z := dget_entT inj e eb
  rw [if_neg h] at z
  exact z
theorem dput_entT {H : Hp} {d b : Addr} {ks : List κ} {f : κ → V} {r : κ} {v : V} (e : H d = some (.dT (entT kk ks f))) (eb : H b = some (.tup ((kk r).map kV))) (hl : ks.length < sizeLine) : DPut H d (.ref b) v (upd H d (.dT (entT kk (addK ks r) (setVal f r v)))) := by
  have z := DPut.t (k := kk r) (v := v) e eb (by rw [entT_len]; exact hl)
  rw [put_entT inj] at z
  exact z
omit inj
theorem entT_get {ks : List κ} {f : κ → V} {i : Nat} {k : List Key} {v : V} (h : (entT kk ks f)[i]? = some (k, v)) : ∃ r, ks[i]? = some r ∧ k = kk r ∧ v = f r := by
  unfold entT at h
  rw [List.getElem?_map] at h
  cases e : ks[i]? with
  | none =>
    rw [e] at h
    cases h
  | some r =>
    rw [e] at h
    have z := Option.some.inj h
    exact ⟨r, rfl, (congrArg Prod.fst z).symm, (congrArg Prod.snd z).symm⟩
end
/-! ### counts in such a dict -/
section
variable {κ : Type} [DecidableEq κ]
/-- the keys of terms in the order in which they first come -/
def keysL (L : List (κ × Int)) : List κ := L.foldl (fun ks x => addK ks x.1) []
/-- what the terms at a key come to -/
def sumAt (L : List (κ × Int)) (r : κ) : Int := (L.map fun x => if x.1 = r then x.2 else 0).sum
theorem keysL_snoc (L : List (κ × Int)) (x : κ × Int) : keysL (L ++ [x]) = addK (keysL L) x.1 := by
  unfold keysL
  rw [List.foldl_append]
  rfl
theorem sumAt_snoc (L : List (κ × Int)) (x : κ × Int) (r : κ) : sumAt (L ++ [x]) r = sumAt L r + if x.1 = r then x.2 else 0 := by
  unfold sumAt
  rw [List.map_append, List.sum_append]
  show _ + (_ + 0) = _
  rw [Int.add_zero]
theorem sumAt_append (L M : List (κ × Int)) (r : κ) : sumAt (L ++ M) r = sumAt L r + sumAt M r := by
  unfold sumAt
  rw [List.map_append, List.sum_append]
theorem nd_foldK : ∀ (L : List (κ × Int)) {ks : List κ}, ks.Nodup → (L.foldl (fun ks x => addK ks x.1) ks).Nodup
  | [], _, h => h
  | x :: L, _, h => nd_foldK L (nd_addK h)
theorem nd_keysL (L : List (κ × Int)) : (keysL L).Nodup := nd_foldK L List.nodup_nil
theorem mem_foldK : ∀ (L : List (κ × Int)) {ks : List κ} {r : κ}, r ∈ L.foldl (fun ks x => addK ks x.1) ks ↔ r ∈ ks ∨ ∃ x ∈ L, x.1 = r
  | [], _, _ => by simp
  | x :: L, ks, r => by
    show r ∈ L.foldl _ (addK ks x.1) ↔ _
    rw [mem_foldK L, mem_addK]
    constructor
    · rintro ((h | h) | ⟨y, h1, h2⟩)
      · exact .inl h
      · exact .inr ⟨x, List.mem_cons_self, h.symm⟩
      · exact .inr ⟨y, List.mem_cons_of_mem _ h1, h2⟩
    · rintro (h | ⟨y, h1, h2⟩)
      · exact .inl (.inl h)
      · rcases List.mem_cons.mp h1 with e | h1
        · exact .inl (.inr (by rw [← h2, e]))
        · exact .inr ⟨y, h1, h2⟩
theorem mem_keysL {L : List (κ × Int)} {r : κ} : r ∈ keysL L ↔ ∃ x ∈ L, x.1 = r := by
  unfold keysL
  rw [mem_foldK]
  simp
theorem sumAt_out : ∀ {L : List (κ × Int)} {r : κ}, (∀ x ∈ L, x.1 ≠ r) → sumAt L r = 0
  | [], _, _ => rfl
  | x :: L, r, h => by
    have z := sumAt_out (L := L) (r := r) fun y hy => h y (List.mem_cons_of_mem _ hy)
    show (if x.1 = r then x.2 else 0) + sumAt L r = 0
    rw [if_neg (h x List.mem_cons_self), z]
    rfl
theorem sumAt_not {L : List (κ × Int)} {r : κ} (h : r ∉ keysL L) : sumAt L r = 0 := sumAt_out fun x hx e => h (mem_keysL.mpr ⟨x, hx, e⟩)
theorem keysL_len : ∀ (L : List (κ × Int)), (keysL L).length ≤ L.length := fun L => by
  have key : ∀ (M : List (κ × Int)) (ks : List κ), (M.foldl (fun ks x => addK ks x.1) ks).length ≤ ks.length + M.length := by
    intro M
    induction M with
    | nil => intro ks; exact Nat.le_refl _
    | cons x M ih =>
      intro ks
      have a := ih (addK ks x.1)
      have b := addK_len ks x.1
      show (M.foldl _ (addK ks x.1)).length ≤ ks.length + (M.length + 1)
      omega
  have z := key L []
  simpa [keysL] using z
/-- the dict of the terms so far -/
def cntO (kk : κ → List Key) (L : List (κ × Int)) : HO := .dT (entT kk (keysL L) fun k => .int (sumAt L k))
theorem cnt_step {kk : κ → List Key} (L : List (κ × Int)) (x : κ × Int) : HO.dT (entT kk (addK (keysL L) x.1) (setVal (fun k => .int (sumAt L k)) x.1 (.int (sumAt L x.1 + x.2)))) = cntO kk (L ++ [x]) := by
  unfold cntO
  rw [keysL_snoc]
  congr 1
  refine entT_congr fun k _ => ?_
  show (if k = x.1 then V.int (sumAt L x.1 + x.2) else .int (sumAt L k)) = .int (sumAt (L ++ [x]) k)
  rw [sumAt_snoc]
  by_cases e : k = x.1
  · rw [if_pos e, e, if_pos rfl]
  · rw [if_neg e, if_neg fun z => e z.symm, Int.add_zero]
/-- what .get(k, 0) tells -/
theorem cnt_get {L : List (κ × Int)} {r : κ} {f : κ → V} (hf : f = fun k => .int (sumAt L k)) : (if r ∈ keysL L then some (f r) else none).getD (.int 0) = .int (sumAt L r) := by
  subst hf
  by_cases h : r ∈ keysL L
  · rw [if_pos h]
    rfl
  · rw [if_neg h, sumAt_not h]
    rfl
end
end TCX
/-! powers of three differences multiplied out: the terms at a key. -/
namespace TCX
open L2
/-- a signed binomial -/
def sbN (n i : Nat) : Int := sgK i * (binN n i : Nat)
def pKey (p q r i j k : Nat) : List Int := [(p : Int) - i + k, (i : Int) + r - k, (i : Int) + q - j, (p : Int) - i + j, (j : Int) + r - k, (q : Int) - j + k]
def pTerm (p q r i j k : Nat) : List Int × Int := (pKey p q r i j k, sbN p i * sbN q j * sbN r k)
def pRow (p q r i j : Nat) : List (List Int × Int) := (List.range (r + 1)).map (pTerm p q r i j)
def pPla (p q r i : Nat) : List (List Int × Int) := (List.range (q + 1)).flatMap (pRow p q r i)
def pAll (p q r : Nat) : List (List Int × Int) := (List.range (p + 1)).flatMap (pPla p q r)
theorem sumAt_flat {κ : Type} [DecidableEq κ] (f : Nat → List (κ × Int)) (x : κ) : ∀ n, sumAt ((List.range n).flatMap f) x = sumK (fun i => sumAt (f i) x) n
  | 0 => rfl
  | n + 1 => by
    rw [List.range_succ, List.flatMap_append, sumAt_append, sumAt_flat f x n, sumK_succ]
    show _ + sumAt (f n ++ []) x = _
    rw [List.append_nil]
theorem sumAt_map {κ : Type} [DecidableEq κ] (f : Nat → κ × Int) (x : κ) : ∀ n, sumAt ((List.range n).map f) x = sumK (fun i => if (f i).1 = x then (f i).2 else 0) n
  | 0 => rfl
  | n + 1 => by
    rw [List.range_succ, List.map_append, sumAt_append, sumAt_map f x n, sumK_succ]
    show _ + ((if (f n).1 = x then (f n).2 else 0) + 0) = _
    rw [Int.add_zero]
theorem sumK_congr {f g : Nat → Int} : ∀ {n : Nat}, (∀ i, i < n → f i = g i) → sumK f n = sumK g n
  | 0, _ => rfl
  | n + 1, h => by rw [sumK_succ, sumK_succ, sumK_congr fun i hi => h i (by omega), h n (by omega)]
/-- a sum with but one term -/
theorem sumK_one (f : Nat → Int) (K0 : Int) : ∀ n : Nat, sumK (fun k => if (k : Int) = K0 then f k else 0) n = if 0 ≤ K0 ∧ K0 < n then f K0.toNat else 0
  | 0 => by
    rw [if_neg (by omega)]
    rfl
  | n + 1 => by
    rw [sumK_succ, sumK_one f K0 n]
    by_cases h : (n : Int) = K0
    · rw [if_pos h, if_neg (by omega), if_pos (by omega), ← h]
      simp
    · rw [if_neg h, Int.add_zero]
      by_cases h2 : 0 ≤ K0 ∧ K0 < n
      · rw [if_pos h2, if_pos (by omega)]
      · rw [if_neg h2, if_neg (by omega)]
theorem sumK_mul (c : Int) (f : Nat → Int) : ∀ n, sumK (fun i => c * f i) n = c * sumK f n
  | 0 => by show (0 : Int) = c * 0; rw [Int.mul_zero]
  | n + 1 => by rw [sumK_succ, sumK_succ, sumK_mul c f n, Int.mul_add]
/-- what a key must be like to be met at all -/
structure KeyP (p q r : Nat) (k0 k1 k2 k3 k4 k5 : Int) : Prop where
  e1 : k1 = p + r - k0
  e2 : k2 = p + q - k3
  e4 : k4 = k3 - k0 + r
  e5 : k5 = q - k3 + k0
def pTm (p q r : Nat) (k0 k3 : Int) (i : Nat) : Int := if (0 ≤ k3 - p + i ∧ k3 - p + i ≤ q) ∧ 0 ≤ k0 - p + i ∧ k0 - p + i ≤ r then sbN p i * sbN q (k3 - p + i).toNat * sbN r (k0 - p + i).toNat else 0
theorem sum_all {p q r : Nat} {k0 k1 k2 k3 k4 k5 : Int} (h : KeyP p q r k0 k1 k2 k3 k4 k5) : sumAt (pAll p q r) [k0, k1, k2, k3, k4, k5] = sumK (pTm p q r k0 k3) (p + 1) := by
  obtain ⟨e1, e2, e4, e5⟩ := h
  unfold pAll
  rw [sumAt_flat]
  refine sumK_congr fun i hi => ?_
  unfold pPla
  rw [sumAt_flat]
  have inner : ∀ j : Nat, sumAt (pRow p q r i j) [k0, k1, k2, k3, k4, k5] = if (j : Int) = k3 - p + i then (if 0 ≤ k0 - p + i ∧ k0 - p + i < ((r + 1 : Nat) : Int) then sbN p i * sbN q j * sbN r (k0 - p + i).toNat else 0) else 0 := fun j => by
    unfold pRow
    rw [sumAt_map]
    by_cases hj : (j : Int) = k3 - p + i
    · rw [if_pos hj, ← sumK_one (fun k => sbN p i * sbN q j * sbN r k) (k0 - p + i) (r + 1)]
      refine sumK_congr fun k _ => ?_
      have : (pTerm p q r i j k).1 = [k0, k1, k2, k3, k4, k5] ↔ (k : Int) = k0 - p + i := by
        show [_, _, _, _, _, _] = [_, _, _, _, _, _] ↔ _
        simp only [List.cons.injEq, and_true]
        omega
      by_cases hk : (k : Int) = k0 - p + i
      · rw [if_pos (this.mpr hk), if_pos hk]
        rfl
      · rw [if_neg fun z => hk (this.mp z), if_neg hk]
    · rw [if_neg hj]
      refine sumK_zero fun k _ => if_neg fun z => hj ?_
      have z' : [_, _, _, _, _, _] = [k0, k1, k2, k3, k4, k5] := z
      simp only [List.cons.injEq, and_true] at z'
      omega
  rw [sumK_congr (g := fun j => if (j : Int) = k3 - p + i then (if 0 ≤ k0 - p + i ∧ k0 - p + i < ((r + 1 : Nat) : Int) then sbN p i * sbN q j * sbN r (k0 - p + i).toNat else 0) else 0) fun j _ => inner j]
  rw [sumK_one (fun j => if 0 ≤ k0 - p + i ∧ k0 - p + i < ((r + 1 : Nat) : Int) then sbN p i * sbN q j * sbN r (k0 - p + i).toNat else 0) (k3 - p + i) (q + 1)]
  unfold pTm
  by_cases h1 : 0 ≤ k3 - (p : Int) + i ∧ k3 - (p : Int) + i ≤ q
  · rw [if_pos (by omega)]
    by_cases h2 : 0 ≤ k0 - (p : Int) + i ∧ k0 - (p : Int) + i ≤ r
    · rw [if_pos (by omega), if_pos ⟨h1, h2⟩]
    · rw [if_neg (by omega), if_neg fun z => h2 z.2]
  · rw [if_neg (by omega), if_neg fun z => h1 z.1]
/-- a term as in the sum of joined numbers -/
def sgZ (z : Int) : Int := if z % 2 = 1 then -1 else 1
theorem sg_two {J K : Nat} {z : Int} (h : ((J : Int) + K - z) % 2 = 0) : sgK J * sgK K = sgZ z := by
  unfold sgK sgZ
  by_cases a : J % 2 = 1
  · by_cases b : K % 2 = 1
    · rw [if_pos a, if_pos b, if_neg (by omega)]
      rfl
    · rw [if_pos a, if_neg b, if_pos (by omega)]
      rfl
  · by_cases b : K % 2 = 1
    · rw [if_neg a, if_pos b, if_pos (by omega)]
      rfl
    · rw [if_neg a, if_neg b, if_neg (by omega)]
      rfl
theorem tm_one {p q r : Nat} {k0 k3 : Int} {i : Nat} (hi : i ≤ p) {B C : Nat} (hB : (B : Int) = p + r - k0) (hC : (C : Int) = p + q - k3) : pTm p q r k0 k3 i = sgZ (k0 + k3) * tmK p B C (k0 - p) (k3 - p) i := by
  unfold pTm tmK
  have hok : okK p B C (k0 - p) (k3 - p) i = true ↔ (0 ≤ k3 - (p : Int) + i ∧ k3 - (p : Int) + i ≤ q) ∧ 0 ≤ k0 - (p : Int) + i ∧ k0 - (p : Int) + i ≤ r := by
    unfold okK
    rw [decide_eq_true_iff]
    omega
  by_cases h : (0 ≤ k3 - (p : Int) + i ∧ k3 - (p : Int) + i ≤ q) ∧ 0 ≤ k0 - (p : Int) + i ∧ k0 - (p : Int) + i ≤ r
  · rw [if_pos h, if_pos (hok.mpr h)]
    obtain ⟨⟨h1, h2⟩, h3, h4⟩ := h
    obtain ⟨J, hJ⟩ : ∃ J : Nat, (J : Int) = k3 - p + i := ⟨(k3 - p + i).toNat, by omega⟩
    obtain ⟨M, hM⟩ : ∃ M : Nat, (M : Int) = k0 - p + i := ⟨(k0 - p + i).toNat, by omega⟩
    rw [← hJ, ← hM, Int.toNat_natCast, Int.toNat_natCast]
    have com : binN p i * binN q J * binN r M * botK p B C (k0 - p) (k3 - p) i = comK p B C (k0 - p) (k3 - p) := by
      unfold botK comK
      rw [show (k0 - (p : Int) + i).toNat = M by omega, show (k3 - (p : Int) + i).toNat = J by omega, show ((B : Int) + (k0 - p)).toNat = r by omega, show ((C : Int) + (k3 - p)).toNat = q by omega, show B - i = r - M by omega, show C - i = q - J by omega,
        ← bin_mul hi, ← bin_mul (n := q) (k := J) (by omega), ← bin_mul (n := r) (k := M) (by omega)]
      simp only [Nat.mul_assoc, Nat.mul_left_comm, Nat.mul_comm]
    have quo : comK p B C (k0 - p) (k3 - p) / botK p B C (k0 - p) (k3 - p) i = binN p i * binN q J * binN r M := by
      rw [← com]
      exact Nat.mul_div_cancel _ (botK_pos _ _ _ _ _ _)
    rw [quo]
    unfold sbN
    rw [← sg_two (J := J) (K := M) (z := k0 + k3) (by omega)]
    simp only [Int.natCast_mul, Int.mul_assoc, Int.mul_left_comm, Int.mul_comm]
  · rw [if_neg h, if_neg fun z => h (hok.mp z), Int.mul_zero]
theorem all_joined {p q r : Nat} {k0 k1 k2 k3 k4 k5 : Int} (h : KeyP p q r k0 k1 k2 k3 k4 k5) {B C : Nat} (hB : (B : Int) = k1) (hC : (C : Int) = k2) : sumAt (pAll p q r) [k0, k1, k2, k3, k4, k5] = sgZ (k0 + k3) * sumK (tmK p B C (k0 - p) (k3 - p)) (p + 1) := by
  rw [sum_all h, ← sumK_mul]
  exact sumK_congr fun i hi => tm_one (by omega) (by rw [hB, h.e1]) (by rw [hC, h.e2])
/-! ### bounds -/
theorem sbN_lt {n i : Nat} (h : n ≤ 12) (hi : i ≤ n) : (sbN n i).natAbs ≤ 924 := by
  have key : ∀ n, n < 13 → ∀ i, i < n + 1 → binN n i ≤ 924 := by decide +kernel
  have z := key n (by omega) i (by omega)
  unfold sbN
  rw [Int.natAbs_mul, Int.natAbs_natCast]
  have : (sgK i).natAbs = 1 := by
    unfold sgK
    split <;> rfl
  rw [this, Nat.one_mul]
  exact z
theorem pRow_len (p q r i j : Nat) : (pRow p q r i j).length = r + 1 := by
  unfold pRow
  rw [List.length_map, List.length_range]
theorem pPla_len (p q r i : Nat) : ∀ m, ((List.range m).flatMap (pRow p q r i)).length = m * (r + 1)
  | 0 => by simp
  | m + 1 => by
    rw [List.range_succ, List.flatMap_append, List.length_append, pPla_len p q r i m, Nat.add_mul m 1, Nat.one_mul]
    show _ + (pRow p q r i m ++ []).length = _
    rw [List.append_nil, pRow_len]
theorem pAll_len (p q r : Nat) : ∀ m, ((List.range m).flatMap (pPla p q r)).length = m * ((q + 1) * (r + 1))
  | 0 => by simp
  | m + 1 => by
    rw [List.range_succ, List.flatMap_append, List.length_append, pAll_len p q r m, Nat.add_mul m 1, Nat.one_mul]
    show _ + (pPla p q r m ++ []).length = _
    rw [List.append_nil]
    unfold pPla
    rw [pPla_len]
/-- keys as the dict has them -/
def kInt (l : List Int) : List Key := l.map Sum.inl
theorem kInt_inj : ∀ a b : List Int, kInt a = kInt b → a = b
  | [], [], _ => rfl
  | [], _ :: _, h => by cases h
  | _ :: _, [], h => by cases h
  | a :: l, b :: m, h => by
    have h' : (Sum.inl a : Key) :: kInt l = Sum.inl b :: kInt m := h
    injection h' with h1 h2
    injection h1 with h1
    rw [h1, kInt_inj l m h2]
theorem kInt_kV (l : List Int) : (kInt l).map kV = l.map V.int := by
  unfold kInt
  rw [List.map_map]
  rfl
end TCX
/-! the numbers of a turning by a half: recursions, orthogonality, halves put together. -/
namespace TCX
theorem bin_pascal {n k : Nat} (h : k < n) : binN (n + 1) (k + 1) = binN n (k + 1) + binN n k := by
  have a := bin_mul (n := n + 1) (k := k + 1) (by omega)
  have b := bin_mul (n := n) (k := k + 1) (by omega)
  have c := bin_mul (n := n) (k := k) (by omega)
  have p : 0 < factN (k + 1) * factN (n - k) := Nat.mul_pos (fact_pos _) (fact_pos _)
  have e1 : factN (n + 1) = (n + 1) * factN n := rfl
  have e2 : factN (k + 1) = (k + 1) * factN k := rfl
  have e3 : factN (n - k) = (n - k) * factN (n - (k + 1)) := by
    rw [show n - k = n - (k + 1) + 1 by omega]
    rfl
  refine Nat.eq_of_mul_eq_mul_right p ?_
  rw [show n + 1 - (k + 1) = n - k by omega] at a
  rw [a, e1]
  have x1 : binN n (k + 1) * (factN (k + 1) * factN (n - k)) = (n - k) * factN n := by
    rw [← b, e3]
    simp only [Nat.mul_assoc, Nat.mul_left_comm, Nat.mul_comm]
  have x2 : binN n k * (factN (k + 1) * factN (n - k)) = (k + 1) * factN n := by
    rw [← c, e2]
    simp only [Nat.mul_assoc, Nat.mul_left_comm, Nat.mul_comm]
  rw [Nat.add_mul (binN n (k + 1)) (binN n k), x1, x2, ← Nat.add_mul]
  congr 1
  omega
theorem bin_self (n : Nat) : binN n n = 1 := by
  unfold binN
  rw [Nat.sub_self, show factN 0 = 1 from rfl, Nat.mul_one]
  exact Nat.div_self (fact_pos n)
theorem bin_0 (n : Nat) : binN n 0 = 1 := bin_zero n
/-- binomials, 0 where there are none -/
def chI (n : Nat) (z : Int) : Int := if 0 ≤ z ∧ z ≤ n then ((binN n z.toNat : Nat) : Int) else 0
theorem chI_out {n : Nat} {z : Int} (h : ¬ (0 ≤ z ∧ z ≤ n)) : chI n z = 0 := if_neg h
theorem chI_nat {n k : Nat} (h : k ≤ n) : chI n (k : Int) = ((binN n k : Nat) : Int) := by
  unfold chI
  rw [if_pos (by omega), Int.toNat_natCast]
theorem chI_succ (n : Nat) (z : Int) : chI (n + 1) z = chI n z + chI n (z - 1) := by
  unfold chI
  by_cases h0 : 0 ≤ z ∧ z ≤ ((n + 1 : Nat) : Int)
  · rw [if_pos h0]
    obtain ⟨k, rfl⟩ : ∃ k : Nat, z = (k : Int) := ⟨z.toNat, by omega⟩
    rw [Int.toNat_natCast]
    rcases Nat.eq_zero_or_pos k with rfl | kp
    · rw [if_pos (by omega), if_neg (by omega), bin_0, bin_0]
      rfl
    · by_cases kn : k = n + 1
      · subst kn
        rw [if_neg (by omega), if_pos (by omega), show (((n + 1 : Nat) : Int) - 1).toNat = n by omega, bin_self, bin_self]
        rfl
      · rw [if_pos (by omega), if_pos (by omega), show ((k : Int) - 1).toNat = k - 1 by omega]
        have := bin_pascal (n := n) (k := k - 1) (by omega)
        rw [show k - 1 + 1 = k by omega] at this
        rw [this, Int.natCast_add]
  · rw [if_neg h0, if_neg (by omega), if_neg (by omega)]
    rfl
def sgY (z : Int) : Int := if z % 2 = 1 then -1 else 1
theorem sgY_pred (z : Int) : sgY z = -sgY (z - 1) := by
  unfold sgY
  by_cases h : z % 2 = 1
  · rw [if_pos h, if_neg (by omega)]
  · rw [if_neg h, if_pos (by omega)]
    rfl
/-- a term, and the sum: what stands at p^i q^(j + l - i) in (x p + y q)^j (x q - y p)^l -/
def wT (x y : Int) (j l : Nat) (i : Int) (k : Nat) : Int := sgY (i - j + k) * (chI j k * chI l (i - j + k)) * (x ^ ((j - k) + (l - (i - j + k).toNat)) * y ^ (k + (i - j + k).toNat))
def wS (x y : Int) (j l : Nat) (i : Int) : Int := sumK (wT x y j l i) (j + 1)
theorem sumK_lin (c d : Int) (f g : Nat → Int) : ∀ n, sumK (fun i => c * f i + d * g i) n = c * sumK f n + d * sumK g n
  | 0 => by
    show (0 : Int) = c * 0 + d * 0
    omega
  | n + 1 => by
    rw [sumK_succ, sumK_succ, sumK_succ, sumK_lin c d f g n]
    grind
theorem sumK_first (f : Nat → Int) (n : Nat) : sumK f (n + 1) = f 0 + sumK (fun i => f (i + 1)) n := by
  rw [show n + 1 = 1 + n by omega, sumK_add]
  have e : (fun i => f (1 + i)) = fun i => f (i + 1) := funext fun i => by rw [Nat.add_comm]
  rw [e]
  congr 1
  show f 0 + 0 = f 0
  omega
/-- one factor x q - y p more -/
theorem wS_l (x y : Int) (j l : Nat) (i : Int) : wS x y j (l + 1) i = x * wS x y j l i + (-y) * wS x y j l (i - 1) := by
  unfold wS
  rw [← sumK_lin]
  refine sumK_congr fun k hk => ?_
  unfold wT
  obtain ⟨m, hm⟩ : ∃ m : Int, i - j + k = m := ⟨_, rfl⟩
  rw [show i - 1 - j + k = m - 1 by omega, hm, chI_succ l m, sgY_pred m]
  have a : chI l m * x ^ ((j - k) + (l + 1 - m.toNat)) = chI l m * (x * x ^ ((j - k) + (l - m.toNat))) := by
    by_cases h : 0 ≤ m ∧ m ≤ l
    · rw [show (j - k) + (l + 1 - m.toNat) = (j - k) + (l - m.toNat) + 1 by omega, Int.pow_succ, Int.mul_comm x]
    · rw [chI_out h, Int.zero_mul, Int.zero_mul]
  have b : chI l (m - 1) * (x ^ ((j - k) + (l + 1 - m.toNat)) * y ^ (k + m.toNat)) = chI l (m - 1) * (x ^ ((j - k) + (l - (m - 1).toNat)) * (y * y ^ (k + (m - 1).toNat))) := by
    by_cases h : 0 ≤ m - 1 ∧ m - 1 ≤ l
    · rw [show (j - k) + (l + 1 - m.toNat) = (j - k) + (l - (m - 1).toNat) by omega, show k + m.toNat = k + (m - 1).toNat + 1 by omega, Int.pow_succ, Int.mul_comm y]
    · rw [chI_out h, Int.zero_mul, Int.zero_mul]
  generalize chI j k = c
  generalize sgY (m - 1) = s
  generalize chI l m = c1 at a ⊢
  generalize chI l (m - 1) = c2 at b ⊢
  generalize x ^ ((j - k) + (l + 1 - m.toNat)) = X at a b ⊢
  generalize x ^ ((j - k) + (l - m.toNat)) = X1 at a ⊢
  generalize x ^ ((j - k) + (l - (m - 1).toNat)) = X2 at b ⊢
  generalize y ^ (k + m.toNat) = Y at b ⊢
  generalize y ^ (k + (m - 1).toNat) = Y2 at b ⊢
  grind
/-- one factor x p + y q more -/
theorem wS_j (x y : Int) (j l : Nat) (i : Int) : wS x y (j + 1) l i = x * wS x y j l (i - 1) + y * wS x y j l i := by
  unfold wS
  have split : ∀ k : Nat, wT x y (j + 1) l i k = (sgY (i - 1 - j + k) * (chI j k * chI l (i - 1 - j + k)) * (x ^ ((j + 1 - k) + (l - (i - 1 - j + k).toNat)) * y ^ (k + (i - 1 - j + k).toNat))) + (sgY (i - 1 - j + k) * (chI j (k - 1) * chI l (i - 1 - j + k)) * (x ^ ((j + 1 - k) + (l - (i - 1 - j + k).toNat)) * y ^ (k + (i - 1 - j + k).toNat))) := fun k => by
    unfold wT
    rw [chI_succ j k, show i - ((j + 1 : Nat) : Int) + k = i - 1 - j + k by omega]
    grind
  have e : sumK (wT x y (j + 1) l i) (j + 1 + 1) = sumK (fun k => 1 * (sgY (i - 1 - j + k) * (chI j k * chI l (i - 1 - j + k)) * (x ^ ((j + 1 - k) + (l - (i - 1 - j + k).toNat)) * y ^ (k + (i - 1 - j + k).toNat))) + 1 * (sgY (i - 1 - j + k) * (chI j (k - 1) * chI l (i - 1 - j + k)) * (x ^ ((j + 1 - k) + (l - (i - 1 - j + k).toNat)) * y ^ (k + (i - 1 - j + k).toNat)))) (j + 1 + 1) := sumK_congr fun k _ => by rw [split k, Int.one_mul, Int.one_mul]
  rw [e, sumK_lin, Int.one_mul, Int.one_mul]
  congr 1
  · rw [sumK_succ, show chI j ((j + 1 : Nat) : Int) = 0 from chI_out (by omega), ← sumK_mul]
    rw [Int.zero_mul, Int.mul_zero, Int.zero_mul, Int.add_zero]
    refine sumK_congr fun k hk => ?_
    unfold wT
    rw [show j + 1 - k + (l - (i - 1 - j + k).toNat) = j - k + (l - (i - 1 - j + k).toNat) + 1 by omega, Int.pow_succ]
    grind
  · rw [sumK_first, show chI j (((0 : Nat) : Int) - 1) = 0 from chI_out (by omega), Int.zero_mul, Int.mul_zero, Int.zero_mul, Int.zero_add, ← sumK_mul]
    refine sumK_congr fun k hk => ?_
    unfold wT
    rw [show ((k + 1 : Nat) : Int) - 1 = (k : Int) by omega, show i - 1 - (j : Int) + ((k + 1 : Nat) : Int) = i - j + k by omega, show j + 1 - (k + 1) = j - k by omega, show k + 1 + (i - (j : Int) + k).toNat = k + (i - (j : Int) + k).toNat + 1 by omega, Int.pow_succ y]
    grind
theorem wS_0 (x y : Int) (i : Int) : wS x y 0 0 i = if i = 0 then 1 else 0 := by
  show wT x y 0 0 i 0 + 0 = _
  unfold wT
  by_cases h : i = 0
  · subst h
    rw [if_pos rfl]
    show sgY 0 * (chI 0 0 * chI 0 0) * (x ^ 0 * y ^ 0) + 0 = 1
    rw [Int.pow_zero, Int.pow_zero]
    rfl
  · rw [if_neg h, show chI 0 (i - ((0 : Nat) : Int) + ((0 : Nat) : Int)) = 0 from chI_out (by omega)]
    simp
theorem wS_out (x y : Int) {j l : Nat} {i : Int} (h : ¬ (0 ≤ i ∧ i ≤ ((j + l : Nat) : Int))) : wS x y j l i = 0 := by
  unfold wS
  refine sumK_zero fun k hk => ?_
  unfold wT
  rw [show chI l (i - j + k) = 0 from chI_out (by omega), Int.mul_zero, Int.mul_zero, Int.zero_mul]
/-! ### rows stand upright -/
theorem pas_sum (t : Nat) (F : Nat → Int) : sumK (fun j => chI (t + 1) (j : Int) * F j) (t + 2) = sumK (fun j => chI t (j : Int) * (F j + F (j + 1))) (t + 1) := by
  have e : sumK (fun j => chI (t + 1) (j : Int) * F j) (t + 2) = sumK (fun j => 1 * (chI t (j : Int) * F j) + 1 * (chI t ((j : Int) - 1) * F j)) (t + 2) := sumK_congr fun j _ => by
    rw [chI_succ]
    grind
  rw [e, sumK_lin, Int.one_mul, Int.one_mul, show t + 2 = t + 1 + 1 from rfl, sumK_succ, show chI t ((t + 1 : Nat) : Int) = 0 from chI_out (by omega), Int.zero_mul, Int.add_zero]
  rw [sumK_first (fun j => chI t ((j : Int) - 1) * F j), show chI t (((0 : Nat) : Int) - 1) = 0 from chI_out (by omega), Int.zero_mul, Int.zero_add]
  have e2 : sumK (fun j => chI t (j : Int) * (F j + F (j + 1))) (t + 1) = sumK (fun j => 1 * (chI t (j : Int) * F j) + 1 * (chI t (j : Int) * F (j + 1))) (t + 1) := sumK_congr fun j _ => by grind
  rw [e2, sumK_lin, Int.one_mul, Int.one_mul]
  congr 1
  refine sumK_congr fun j _ => ?_
  rw [show ((j + 1 : Nat) : Int) - 1 = (j : Int) by omega]
theorem upright (x y : Int) : ∀ (t : Nat) (i i' : Int), sumK (fun j => chI t (j : Int) * (wS x y j (t - j) i * wS x y j (t - j) i')) (t + 1) = if i = i' then chI t i * (x * x + y * y) ^ t else 0
  | 0, i, i' => by
    show chI 0 ((0 : Nat) : Int) * (wS x y 0 0 i * wS x y 0 0 i') + 0 = _
    rw [wS_0, wS_0, chI_nat (Nat.le_refl 0), bin_0]
    by_cases h : i = i'
    · subst h
      rw [if_pos rfl]
      by_cases h0 : i = 0
      · subst h0
        rw [Int.pow_zero]
        rfl
      · rw [if_neg h0, show chI 0 i = 0 from chI_out (by omega)]
        simp
    · rw [if_neg h]
      by_cases h0 : i = 0
      · rw [if_neg (c := i' = 0) (by omega)]
        simp
      · rw [if_neg h0]
        simp
  | t + 1, i, i' => by
    rw [pas_sum]
    have e : sumK (fun j => chI t (j : Int) * (wS x y j (t + 1 - j) i * wS x y j (t + 1 - j) i' + wS x y (j + 1) (t + 1 - (j + 1)) i * wS x y (j + 1) (t + 1 - (j + 1)) i')) (t + 1)
        = sumK (fun j => (x * x + y * y) * (chI t (j : Int) * (wS x y j (t - j) i * wS x y j (t - j) i')) + (x * x + y * y) * (chI t (j : Int) * (wS x y j (t - j) (i - 1) * wS x y j (t - j) (i' - 1)))) (t + 1) := sumK_congr fun j hj => by
      rw [show t + 1 - (j + 1) = t - j by omega, show t + 1 - j = t - j + 1 by omega, wS_l, wS_l, wS_j, wS_j]
      grind
    rw [e, sumK_lin, upright x y t i i', upright x y t (i - 1) (i' - 1), chI_succ t i]
    by_cases h : i = i'
    · rw [if_pos h, if_pos (by omega), if_pos h, Int.pow_succ]
      grind
    · rw [if_neg h, if_neg (by omega), if_neg h]
      simp
/-! ### halves put together -/
theorem wS_both_l {x1 y1 x2 y2 : Int} (m l : Nat) (ih : ∀ i, sumK (fun j => wS x2 y2 j (m + l - j) i * wS x1 y1 m l (j : Int)) (m + l + 1) = wS (x1 * x2 - y1 * y2) (x1 * y2 + y1 * x2) m l i) (i : Int) :
    sumK (fun j => wS x2 y2 j (m + (l + 1) - j) i * wS x1 y1 m (l + 1) (j : Int)) (m + (l + 1) + 1) = wS (x1 * x2 - y1 * y2) (x1 * y2 + y1 * x2) m (l + 1) i := by
  have e : sumK (fun j => wS x2 y2 j (m + (l + 1) - j) i * wS x1 y1 m (l + 1) (j : Int)) (m + (l + 1) + 1) = sumK (fun j => x1 * (wS x2 y2 j (m + (l + 1) - j) i * wS x1 y1 m l (j : Int)) + (-y1) * (wS x2 y2 j (m + (l + 1) - j) i * wS x1 y1 m l ((j : Int) - 1))) (m + (l + 1) + 1) := sumK_congr fun j _ => by
    rw [wS_l x1 y1]
    grind
  rw [e, sumK_lin, sumK_succ, show wS x1 y1 m l ((m + (l + 1) : Nat) : Int) = 0 from wS_out _ _ (by omega), Int.mul_zero, Int.add_zero]
  rw [sumK_first (fun j => wS x2 y2 j (m + (l + 1) - j) i * wS x1 y1 m l ((j : Int) - 1)), show wS x1 y1 m l (((0 : Nat) : Int) - 1) = 0 from wS_out _ _ (by omega), Int.mul_zero, Int.zero_add, ← sumK_lin]
  have e2 : sumK (fun j => x1 * (wS x2 y2 j (m + (l + 1) - j) i * wS x1 y1 m l (j : Int)) + (-y1) * (wS x2 y2 (j + 1) (m + (l + 1) - (j + 1)) i * wS x1 y1 m l (((j + 1 : Nat) : Int) - 1))) (m + (l + 1)) = sumK (fun j => (x1 * x2 - y1 * y2) * (wS x2 y2 j (m + l - j) i * wS x1 y1 m l (j : Int)) + (-(x1 * y2 + y1 * x2)) * (wS x2 y2 j (m + l - j) (i - 1) * wS x1 y1 m l (j : Int))) (m + l + 1) := sumK_congr fun j hj => by
    rw [show ((j + 1 : Nat) : Int) - 1 = (j : Int) by omega, show m + (l + 1) - (j + 1) = m + l - j by omega, show m + (l + 1) - j = m + l - j + 1 by omega, wS_l x2 y2, wS_j x2 y2]
    grind
  rw [e2, sumK_lin, ih i, ih (i - 1), wS_l]
theorem wS_both_j {x1 y1 x2 y2 : Int} (m l : Nat) (ih : ∀ i, sumK (fun j => wS x2 y2 j (m + l - j) i * wS x1 y1 m l (j : Int)) (m + l + 1) = wS (x1 * x2 - y1 * y2) (x1 * y2 + y1 * x2) m l i) (i : Int) :
    sumK (fun j => wS x2 y2 j (m + 1 + l - j) i * wS x1 y1 (m + 1) l (j : Int)) (m + 1 + l + 1) = wS (x1 * x2 - y1 * y2) (x1 * y2 + y1 * x2) (m + 1) l i := by
  have e : sumK (fun j => wS x2 y2 j (m + 1 + l - j) i * wS x1 y1 (m + 1) l (j : Int)) (m + 1 + l + 1) = sumK (fun j => y1 * (wS x2 y2 j (m + 1 + l - j) i * wS x1 y1 m l (j : Int)) + x1 * (wS x2 y2 j (m + 1 + l - j) i * wS x1 y1 m l ((j : Int) - 1))) (m + 1 + l + 1) := sumK_congr fun j _ => by
    rw [wS_j x1 y1]
    grind
  rw [e, sumK_lin, sumK_succ, show wS x1 y1 m l ((m + 1 + l : Nat) : Int) = 0 from wS_out _ _ (by omega), Int.mul_zero, Int.add_zero]
  rw [sumK_first (fun j => wS x2 y2 j (m + 1 + l - j) i * wS x1 y1 m l ((j : Int) - 1)), show wS x1 y1 m l (((0 : Nat) : Int) - 1) = 0 from wS_out _ _ (by omega), Int.mul_zero, Int.zero_add, ← sumK_lin]
  have e2 : sumK (fun j => y1 * (wS x2 y2 j (m + 1 + l - j) i * wS x1 y1 m l (j : Int)) + x1 * (wS x2 y2 (j + 1) (m + 1 + l - (j + 1)) i * wS x1 y1 m l (((j + 1 : Nat) : Int) - 1))) (m + 1 + l) = sumK (fun j => (x1 * x2 - y1 * y2) * (wS x2 y2 j (m + l - j) (i - 1) * wS x1 y1 m l (j : Int)) + (x1 * y2 + y1 * x2) * (wS x2 y2 j (m + l - j) i * wS x1 y1 m l (j : Int))) (m + l + 1) := by
    rw [show m + 1 + l = m + l + 1 by omega]
    refine sumK_congr fun j hj => ?_
    rw [show ((j + 1 : Nat) : Int) - 1 = (j : Int) by omega, show m + l + 1 - (j + 1) = m + l - j by omega, show m + l + 1 - j = m + l - j + 1 by omega, wS_l x2 y2, wS_j x2 y2]
    grind
  rw [e2, sumK_lin, ih i, ih (i - 1), wS_j]
/-- turned by one half, then by another -/
theorem wS_both {x1 y1 x2 y2 : Int} : ∀ (m l : Nat) (i : Int), sumK (fun j => wS x2 y2 j (m + l - j) i * wS x1 y1 m l (j : Int)) (m + l + 1) = wS (x1 * x2 - y1 * y2) (x1 * y2 + y1 * x2) m l i
  | 0, 0, i => by
    show wS x2 y2 0 0 i * wS x1 y1 0 0 ((0 : Nat) : Int) + 0 = _
    rw [wS_0, wS_0, wS_0]
    simp
  | 0, l + 1, i => wS_both_l 0 l (wS_both 0 l) i
  | m + 1, l, i => wS_both_j m l (wS_both m l) i
end TCX
namespace TCX
/-! ### the other way about -/
theorem sgY_sub (z : Int) : sgY (z - 1) = -sgY z := by
  rw [sgY_pred z, Int.neg_neg]
theorem sgY_sq (z : Int) : sgY z * sgY z = 1 := by
  unfold sgY
  split <;> rfl
theorem wS_neg (x y : Int) : ∀ (j l : Nat) (i : Int), wS x (-y) j l i = sgY (i - j) * wS x y j l i
  | 0, 0, i => by
    rw [wS_0, wS_0]
    by_cases h : i = 0
    · subst h
      rw [if_pos rfl]
      rfl
    · rw [if_neg h, Int.mul_zero]
  | 0, l + 1, i => by
    rw [wS_l, wS_l, wS_neg x y 0 l i, wS_neg x y 0 l (i - 1), show i - 1 - ((0 : Nat) : Int) = i - ((0 : Nat) : Int) - 1 by omega, sgY_sub]
    grind
  | j + 1, l, i => by
    rw [wS_j, wS_j, wS_neg x y j l i, wS_neg x y j l (i - 1), show i - ((j + 1 : Nat) : Int) = i - j - 1 by omega, show i - 1 - (j : Int) = i - j - 1 by omega, sgY_sub]
    grind
theorem wS_rev (x y : Int) : ∀ (j l : Nat) (i : Int), wS x y l j (((j + l : Nat) : Int) - i) = sgY (i - j) * wS x y j l i
  | 0, 0, i => by
    rw [wS_0, wS_0]
    by_cases h : i = 0
    · subst h
      rfl
    · rw [if_neg h, if_neg (by omega), Int.mul_zero]
  | 0, l + 1, i => by
    rw [wS_j, wS_l, show ((0 + (l + 1) : Nat) : Int) - i - 1 = ((0 + l : Nat) : Int) - i by omega, show ((0 + (l + 1) : Nat) : Int) - i = ((0 + l : Nat) : Int) - (i - 1) by omega, wS_rev x y 0 l i, wS_rev x y 0 l (i - 1), show i - 1 - ((0 : Nat) : Int) = i - ((0 : Nat) : Int) - 1 by omega, sgY_sub]
    grind
  | j + 1, l, i => by
    rw [wS_l, wS_j, show ((j + 1 + l : Nat) : Int) - i - 1 = ((j + l : Nat) : Int) - i by omega, show ((j + 1 + l : Nat) : Int) - i = ((j + l : Nat) : Int) - (i - 1) by omega, wS_rev x y j l i, wS_rev x y j l (i - 1), show i - ((j + 1 : Nat) : Int) = i - j - 1 by omega, show i - 1 - (j : Int) = i - j - 1 by omega, sgY_sub]
    grind
theorem wS_diag (r : Int) : ∀ (j l : Nat) (i : Int), wS r 0 j l i = if i = j then r ^ (j + l) else 0
  | 0, 0, i => by
    rw [wS_0]
    by_cases h : i = 0
    · rw [if_pos h, if_pos (by omega), Nat.add_zero, Int.pow_zero]
    · rw [if_neg h, if_neg (by omega)]
  | 0, l + 1, i => by
    rw [wS_l, wS_diag r 0 l i, Int.neg_zero, Int.zero_mul, Int.add_zero]
    by_cases h : i = ((0 : Nat) : Int)
    · rw [if_pos h, if_pos h, show 0 + (l + 1) = 0 + l + 1 by omega, Int.pow_succ, Int.mul_comm]
    · rw [if_neg h, if_neg h, Int.mul_zero]
  | j + 1, l, i => by
    rw [wS_j, wS_diag r j l (i - 1), Int.zero_mul, Int.add_zero]
    by_cases h : i = ((j + 1 : Nat) : Int)
    · rw [if_pos h, if_pos (by omega), show j + 1 + l = j + l + 1 by omega, Int.pow_succ, Int.mul_comm]
    · rw [if_neg h, if_neg (by omega), Int.mul_zero]
theorem sumK_swap (f : Nat → Nat → Int) : ∀ m n, sumK (fun k => sumK (fun j => f k j) n) m = sumK (fun j => sumK (fun k => f k j) m) n
  | 0, n => (sumK_zero fun _ _ => rfl).symm
  | m + 1, n => by
    rw [sumK_succ, sumK_swap f m n]
    have e : sumK (fun j => sumK (fun k => f k j) (m + 1)) n = sumK (fun j => 1 * sumK (fun k => f k j) m + 1 * f m j) n := sumK_congr fun j _ => by rw [sumK_succ, Int.one_mul, Int.one_mul]
    rw [e, sumK_lin, Int.one_mul, Int.one_mul]
theorem sumK_pick (f : Nat → Int) (c : Int) {i n : Nat} (h : i < n) : sumK (fun j => if (j : Int) = (i : Int) then f j * c else 0) n = f i * c := by
  rw [sumK_one (fun j => f j * c) (i : Int) n, if_pos (by omega), Int.toNat_natCast]
/-- rows and columns exchanged -/
theorem wS_flip (x y : Int) (hr : x * x + y * y ≠ 0) {t i j : Nat} (hi : i ≤ t) (hj : j ≤ t) : chI t j * (sgY ((i : Int) - j) * wS x y j (t - j) (i : Int)) = chI t i * wS x y i (t - i) (j : Int) := by
  have hp : (x * x + y * y) ^ t ≠ 0 := Int.pow_ne_zero hr
  refine Int.eq_of_mul_eq_mul_right hp ?_
  have A : sumK (fun k => wS x (-y) k (t - k) (i : Int) * sumK (fun z => chI t (z : Int) * (wS x y z (t - z) (k : Int) * wS x y z (t - z) (j : Int))) (t + 1)) (t + 1) = wS x (-y) j (t - j) (i : Int) * (chI t j * (x * x + y * y) ^ t) := by
    rw [← sumK_pick (fun k => wS x (-y) k (t - k) (i : Int)) (chI t j * (x * x + y * y) ^ t) (i := j) (n := t + 1) (by omega)]
    refine sumK_congr fun k hk => ?_
    rw [upright]
    by_cases h : (k : Int) = (j : Int)
    · rw [if_pos h, if_pos h, h]
    · rw [if_neg h, if_neg h, Int.mul_zero]
  have B : sumK (fun k => wS x (-y) k (t - k) (i : Int) * sumK (fun z => chI t (z : Int) * (wS x y z (t - z) (k : Int) * wS x y z (t - z) (j : Int))) (t + 1)) (t + 1) = chI t i * wS x y i (t - i) (j : Int) * (x * x + y * y) ^ t := by
    have e : ∀ k, wS x (-y) k (t - k) (i : Int) * sumK (fun z => chI t (z : Int) * (wS x y z (t - z) (k : Int) * wS x y z (t - z) (j : Int))) (t + 1) = sumK (fun z => wS x (-y) k (t - k) (i : Int) * (chI t (z : Int) * (wS x y z (t - z) (k : Int) * wS x y z (t - z) (j : Int)))) (t + 1) := fun k => (sumK_mul _ _ _).symm
    rw [sumK_congr fun k _ => e k, sumK_swap]
    rw [← sumK_pick (fun z => chI t (z : Int) * wS x y z (t - z) (j : Int)) ((x * x + y * y) ^ t) (i := i) (n := t + 1) (by omega)]
    refine sumK_congr fun z hz => ?_
    have b := wS_both (x1 := x) (y1 := y) (x2 := x) (y2 := -y) z (t - z) (i : Int)
    rw [show z + (t - z) = t by omega, show x * x - y * -y = x * x + y * y by grind, show x * -y + y * x = 0 by grind, wS_diag] at b
    rw [show z + (t - z) = t by omega] at b
    have e2 : sumK (fun k => wS x (-y) k (t - k) (i : Int) * (chI t (z : Int) * (wS x y z (t - z) (k : Int) * wS x y z (t - z) (j : Int)))) (t + 1) = sumK (fun k => (chI t (z : Int) * wS x y z (t - z) (j : Int)) * (wS x (-y) k (t - k) (i : Int) * wS x y z (t - z) (k : Int))) (t + 1) := sumK_congr fun k _ => by grind
    rw [e2, sumK_mul, b]
    by_cases h : (i : Int) = (z : Int)
    · rw [if_pos h, if_pos h.symm]
    · rw [if_neg h, if_neg fun y => h y.symm, Int.mul_zero]
  rw [wS_neg] at A
  rw [← B, A]
  grind
end TCX
namespace TC
open TCX
/-! LDX (pure, for k12): the sum of squares at the top of a ladder, by Vandermonde's rule -/
/-- the number of ways to choose i of p + i -/
def rs : Nat → Nat → Int
  | 0 => fun _ => 1
  | p + 1 => fun i => sumK (rs p) (i + 1)
theorem rs_ss (p i : Nat) : rs (p + 1) (i + 1) = rs p (i + 1) + rs (p + 1) i := by
  show sumK (rs p) (i + 1 + 1) = rs p (i + 1) + sumK (rs p) (i + 1)
  rw [sumK_succ]
  omega
theorem rs_zero : ∀ p, rs p 0 = 1
  | 0 => rfl
  | p + 1 => by
    show sumK (rs p) (0 + 1) = 1
    rw [sumK_succ, rs_zero p]
    rfl
theorem rs_pos : ∀ p i, 0 < rs p i
  | 0, _ => by
    show (0 : Int) < 1
    decide
  | p + 1, 0 => by
    rw [rs_zero]
    decide
  | p + 1, i + 1 => by
    have h1 := rs_pos p (i + 1)
    have h2 := rs_pos (p + 1) i
    rw [rs_ss]
    omega
theorem rs_bin : ∀ p i, rs p i = ((binN (p + i) i : Nat) : Int)
  | 0, i => by
    rw [Nat.zero_add, bin_self]
    rfl
  | p + 1, 0 => by
    rw [bin_0, rs_zero]
    rfl
  | p + 1, i + 1 => by
    rw [rs_ss, rs_bin p (i + 1), rs_bin (p + 1) i, show p + 1 + (i + 1) = (p + 1 + i) + 1 by omega, bin_pascal (show i < p + 1 + i by omega), show p + (i + 1) = p + 1 + i by omega]
    omega
/-- Vandermonde's rule -/
theorem conv (q : Nat) : ∀ p n, sumK (fun i => rs p (n - i) * rs q i) (n + 1) = rs (p + q + 1) n
  | 0, 0 => by
    rw [sumK_succ, rs_zero, rs_zero, rs_zero]
    rfl
  | 0, n + 1 => by
    have ih := conv q 0 n
    rw [sumK_succ, Nat.sub_self]
    have e : (fun i => rs 0 (n + 1 - i) * rs q i) = fun i => rs 0 (n - i) * rs q i := rfl
    rw [e, ih]
    rw [show rs 0 0 = 1 from rfl, Nat.zero_add, rs_ss]
    omega
  | p + 1, 0 => by
    rw [sumK_succ, rs_zero, rs_zero, rs_zero]
    rfl
  | p + 1, n + 1 => by
    have h1 := conv q p (n + 1)
    have h2 := conv q (p + 1) n
    rw [sumK_succ, Nat.sub_self, rs_zero] at h1 ⊢
    have e : sumK (fun i => rs (p + 1) (n + 1 - i) * rs q i) (n + 1) = sumK (fun i => rs p (n + 1 - i) * rs q i) (n + 1) + sumK (fun i => rs (p + 1) (n - i) * rs q i) (n + 1) := by
      have z := sumK_lin 1 1 (fun i => rs p (n + 1 - i) * rs q i) (fun i => rs (p + 1) (n - i) * rs q i) (n + 1)
      rw [Int.one_mul, Int.one_mul] at z
      rw [← z]
      refine congrArg List.sum (List.map_congr_left fun i hi => ?_)
      have hi := List.mem_range.mp hi
      rw [show n + 1 - i = (n - i) + 1 by omega]
      show rs (p + 1) (n - i + 1) * rs q i = 1 * (rs p (n - i + 1) * rs q i) + 1 * (rs (p + 1) (n - i) * rs q i)
      rw [rs_ss, Int.add_mul, Int.one_mul, Int.one_mul]
    rw [e, h2]
    have g : rs (p + 1 + q + 1) (n + 1) = rs (p + q + 1) (n + 1) + rs (p + 1 + q + 1) n := by
      rw [show p + 1 + q + 1 = (p + q + 1) + 1 by omega, rs_ss]
    rw [g, ← h1]
    omega
/-- one step to the right -/
theorem rs_mul (p j : Nat) : rs p (j + 1) * (j + 1) = rs p j * (p + j + 1) := by
  have h1 := bin_mul (show j + 1 ≤ p + (j + 1) by omega)
  have h2 := bin_mul (show j ≤ p + j by omega)
  have e : binN (p + (j + 1)) (j + 1) * (j + 1) = binN (p + j) j * (p + j + 1) := by
    have z : 0 < factN j * factN p := Nat.mul_pos (fact_pos _) (fact_pos _)
    refine Nat.eq_of_mul_eq_mul_right z ?_
    rw [show p + (j + 1) - (j + 1) = p by omega, show p + (j + 1) = (p + j) + 1 by omega, show factN (p + j + 1) = (p + j + 1) * factN (p + j) from rfl, show factN (j + 1) = (j + 1) * factN j from rfl] at h1
    rw [show p + j - j = p by omega] at h2
    rw [← h2] at h1
    rw [show p + (j + 1) = (p + j) + 1 by omega]
    calc _ = binN (p + j + 1) (j + 1) * ((j + 1) * factN j * factN p) := by grind
      _ = (p + j + 1) * (binN (p + j) j * (factN j * factN p)) := h1
      _ = _ := by grind
  rw [rs_bin, rs_bin]
  have e' := congrArg (fun x : Nat => (x : Int)) e
  simp only [Int.natCast_mul, Int.natCast_add] at e'
  exact e'
/-- the i-th square at the top, times that of the first -/
def topN (p r n i : Nat) : Int := rs p (n - i) * rs r i
theorem topN_pos (p r n i : Nat) : 0 < topN p r n i := Int.mul_pos (rs_pos _ _) (rs_pos _ _)
theorem topN_step {p r n i : Nat} (h : i < n) : topN p r n (i + 1) * (((p : Int) + n - i) * (i + 1)) = topN p r n i * (((n : Int) - i) * (r + i + 1)) := by
  have h1 := rs_mul r i
  have h2 := rs_mul p (n - (i + 1))
  have e : n - i = n - (i + 1) + 1 := by omega
  have e2 : ((n - (i + 1) : Nat) : Int) = (n : Int) - i - 1 := by omega
  unfold topN
  rw [e]
  rw [e2] at h2
  generalize rs p (n - (i + 1)) = x at h2 ⊢
  generalize rs p (n - (i + 1) + 1) = y at h2 ⊢
  generalize rs r (i + 1) = z at h1 ⊢
  generalize rs r i = t at h1 ⊢
  have h2' : y * ((n : Int) - i) = x * ((p : Int) + n - i) := by grind
  calc x * z * (((p : Int) + n - i) * (i + 1)) = (x * ((p : Int) + n - i)) * (z * (i + 1)) := by grind
    _ = (y * ((n : Int) - i)) * (t * (r + i + 1)) := by rw [h2', h1]
    _ = _ := by grind
theorem topN_sum (p r n : Nat) : sumK (topN p r n) (n + 1) = rs (p + r + 1) n := conv r p n
/-- the squares as the program comes by them: the first is 1, each next by one fraction -/
theorem topQ_step {p r n i : Nat} (h : i < n) {q : Rat} (hq : q = Rat.divInt (topN p r n i) (rs p n)) : q * Rat.divInt (((n : Int) - i) * (r + i + 1)) (((p : Int) + n - i) * (i + 1)) = Rat.divInt (topN p r n (i + 1)) (rs p n) := by
  have hp := rs_pos p n
  have hb : 0 < ((p : Int) + n - i) * (i + 1) := Int.mul_pos (by omega) (by omega)
  rw [hq, Rat.divInt_mul_divInt, ← topN_step h, Rat.divInt_eq_divInt_iff (Int.ne_of_gt (Int.mul_pos hp hb)) (Int.ne_of_gt hp)]
  grind
end TC
namespace TC
open TCX
/-! LDY (for k12): what the first number at the top of a ladder is -/
theorem rs_fact (p n : Nat) : rs p n * ((factN n : Nat) * (factN p : Nat) : Int) = (factN (p + n) : Nat) := by
  have h := bin_mul (show n ≤ p + n by omega)
  rw [show p + n - n = p by omega] at h
  rw [rs_bin, ← h]
  simp only [Int.natCast_mul]
theorem top_fact (p r n : Nat) : rs (p + r + 1) n * ((factN (p + r + 1) : Nat) * (factN (p + n) : Nat) : Int) = rs p n * ((factN p : Nat) * (factN (p + r + n + 1) : Nat) : Int) := by
  have h1 := rs_fact p n
  have h2 := rs_fact (p + r + 1) n
  rw [show p + r + 1 + n = p + r + n + 1 by omega] at h2
  rw [← h1, ← h2]
  grind
/-- the sum in it has one term -/
theorem top_sum (p r n : Nat) : sumK (tmK n 0 r (p : Int) 0) (n + 1) = 1 := by
  have e : ∀ m, sumK (tmK n 0 r (p : Int) 0) (m + 1) = 1 := by
    intro m
    induction m with
    | zero =>
      rw [sumK_succ]
      show (0 : Int) + tmK n 0 r (p : Int) 0 0 = 1
      have ok : okK n 0 r (p : Int) 0 0 = true := by
        unfold okK
        exact decide_eq_true ⟨by omega, by omega, by omega, by omega, by omega⟩
      unfold tmK
      rw [if_pos ok]
      have eb : botK n 0 r (p : Int) 0 0 = comK n 0 r (p : Int) 0 := by
        unfold botK comK
        simp only [Nat.sub_zero, Nat.sub_self]
        rw [show ((p : Int) + ((0 : Nat) : Int)).toNat = p by omega, show (0 + ((0 : Nat) : Int)).toNat = 0 by omega, show (((0 : Nat) : Int) + (p : Int)).toNat = p by omega, show ((r : Int) + 0).toNat = r by omega, show factN 0 = 1 from rfl]
        grind
      rw [eb, Nat.div_self (comK_pos _ _ _ _ _)]
      rfl
    | succ m ih =>
      rw [sumK_succ, ih]
      have ok : ¬ okK n 0 r (p : Int) 0 (m + 1) = true := by
        unfold okK
        intro z
        have := of_decide_eq_true z
        omega
      unfold tmK
      rw [if_neg ok]
      rfl
  exact e n
/-- the square of the first number at the top -/
theorem top_N (p r n : Nat) : ((prodF (jAb ((p : Int) + n) ((p : Int) + n) ((r : Int) + n) ((r : Int) - n) ((p : Int) + r) ((p : Int) + r)) : Nat) : Int) * rs (p + r + 1) n = ((prodF (jBe ((p : Int) + n) ((r : Int) + n) ((p : Int) + r)) : Nat) : Int) * rs p n := by
  have t := top_fact p r n
  have e1 : jAb ((p : Int) + n) ((p : Int) + n) ((r : Int) + n) ((r : Int) - n) ((p : Int) + r) ((p : Int) + r) = [p + r + 1, p + n, 0, r, n, p + r, 0] := by
    unfold jAb
    simp only [List.cons.injEq, and_true]
    omega
  have e2 : jBe ((p : Int) + n) ((r : Int) + n) ((p : Int) + r) = [p + r, p + r + n + 1, n, p, r] := by
    unfold jBe
    simp only [List.cons.injEq, and_true]
    omega
  rw [e1, e2]
  have f0 : factN 0 = 1 := rfl
  rw [show prodF [p + r + 1, p + n, 0, r, n, p + r, 0] = factN (p + r + 1) * (factN (p + n) * (factN 0 * (factN r * (factN n * (factN (p + r) * (factN 0 * 1)))))) from rfl,
    show prodF [p + r, p + r + n + 1, n, p, r] = factN (p + r) * (factN (p + r + n + 1) * (factN n * (factN p * (factN r * 1)))) from rfl, f0]
  clear e1 e2
  simp only [Int.natCast_mul, Int.natCast_one, Int.mul_one, Int.one_mul]
  generalize ((factN (p + r + 1) : Nat) : Int) = x1 at t ⊢
  generalize ((factN (p + n) : Nat) : Int) = x2 at t ⊢
  generalize ((factN p : Nat) : Int) = x3 at t ⊢
  generalize ((factN (p + r + n + 1) : Nat) : Int) = x4 at t ⊢
  generalize ((factN r : Nat) : Int) = x5
  generalize ((factN n : Nat) : Int) = x6
  generalize ((factN (p + r) : Nat) : Int) = x7
  generalize rs (p + r + 1) n = y1 at t ⊢
  generalize rs p n = y2 at t ⊢
  calc x1 * (x2 * (x5 * (x6 * x7))) * y1 = (y1 * (x1 * x2)) * (x5 * x6 * x7) := by grind
    _ = (y2 * (x3 * x4)) * (x5 * x6 * x7) := by rw [t]
    _ = _ := by grind
end TC
namespace TC
open TCX
/-! LDZ (for k12): the heights of a joined number, one step up -/
theorem fact_S (n : Nat) : factN (n + 1) = (n + 1) * factN n := rfl
theorem prodF_7 (a b c d e f g : Nat) : prodF [a, b, c, d, e, f, g] = factN a * (factN b * (factN c * (factN d * (factN e * (factN f * factN g))))) := by
  show factN a * (factN b * (factN c * (factN d * (factN e * (factN f * (factN g * 1)))))) = _
  rw [Nat.mul_one]
theorem hgt_u (z x y h k s t : Nat) : prodF [z, x + 1, y, h, k, s + 1, t] * ((y + 1) * (t + 1)) = prodF [z, x, y + 1, h, k, s, t + 1] * ((x + 1) * (s + 1)) := by
  rw [prodF_7, prodF_7, fact_S x, fact_S s, fact_S y, fact_S t]
  grind
theorem hgt_v (z x y h k s t : Nat) : prodF [z, x, y, h + 1, k, s + 1, t] * ((k + 1) * (t + 1)) = prodF [z, x, y, h, k + 1, s, t + 1] * ((h + 1) * (s + 1)) := by
  rw [prodF_7, prodF_7, fact_S h, fact_S s, fact_S k, fact_S t]
  grind
/-- at the top: one step along -/
theorem hgt_top (z x y h k s t : Nat) : prodF [z, x, y + 1, h + 1, k, s, t] * ((x + 1) * (k + 1)) = prodF [z, x + 1, y, h, k + 1, s, t] * ((y + 1) * (h + 1)) := by
  rw [prodF_7, prodF_7, fact_S x, fact_S y, fact_S h, fact_S k]
  grind
/-- the same of joined numbers' heights -/
theorem jAb_u {a u b v c w : Int} (hau : (a + u) % 2 = 0) (hcw : (c + w) % 2 = 0) (u0 : 0 ≤ a + u) (u1 : u + 2 ≤ a) (w0 : 0 ≤ c + w) (w1 : w + 2 ≤ c) :
    ((prodF (jAb a (u + 2) b v c (w + 2)) : Nat) : Int) * ((a - u) * (c - w)) = ((prodF (jAb a u b v c w) : Nat) : Int) * ((a + u + 2) * (c + w + 2)) := by
  have h := hgt_u (c + 1).toNat ((a + u) / 2).toNat ((a - (u + 2)) / 2).toNat ((b + v) / 2).toNat ((b - v) / 2).toNat ((c + w) / 2).toNat ((c - (w + 2)) / 2).toNat
  have e1 : jAb a (u + 2) b v c (w + 2) = [(c + 1).toNat, ((a + u) / 2).toNat + 1, ((a - (u + 2)) / 2).toNat, ((b + v) / 2).toNat, ((b - v) / 2).toNat, ((c + w) / 2).toNat + 1, ((c - (w + 2)) / 2).toNat] := by
    unfold jAb
    simp only [List.cons.injEq, and_true, true_and]
    omega
  have e2 : jAb a u b v c w = [(c + 1).toNat, ((a + u) / 2).toNat, ((a - (u + 2)) / 2).toNat + 1, ((b + v) / 2).toNat, ((b - v) / 2).toNat, ((c + w) / 2).toNat, ((c - (w + 2)) / 2).toNat + 1] := by
    unfold jAb
    simp only [List.cons.injEq, and_true, true_and]
    omega
  rw [← e1, ← e2] at h
  have h' := congrArg (fun x : Nat => (x : Int)) h
  simp only [Int.natCast_mul, Int.natCast_add] at h'
  rw [show a - u = 2 * ((((a - (u + 2)) / 2).toNat : Nat) + ((1 : Nat) : Int)) by omega, show c - w = 2 * ((((c - (w + 2)) / 2).toNat : Nat) + ((1 : Nat) : Int)) by omega, show a + u + 2 = 2 * ((((a + u) / 2).toNat : Nat) + ((1 : Nat) : Int)) by omega, show c + w + 2 = 2 * ((((c + w) / 2).toNat : Nat) + ((1 : Nat) : Int)) by omega]
  grind
theorem jAb_v {a u b v c w : Int} (hbv : (b + v) % 2 = 0) (hcw : (c + w) % 2 = 0) (v0 : 0 ≤ b + v) (v1 : v + 2 ≤ b) (w0 : 0 ≤ c + w) (w1 : w + 2 ≤ c) :
    ((prodF (jAb a u b (v + 2) c (w + 2)) : Nat) : Int) * ((b - v) * (c - w)) = ((prodF (jAb a u b v c w) : Nat) : Int) * ((b + v + 2) * (c + w + 2)) := by
  have h := hgt_v (c + 1).toNat ((a + u) / 2).toNat ((a - u) / 2).toNat ((b + v) / 2).toNat ((b - (v + 2)) / 2).toNat ((c + w) / 2).toNat ((c - (w + 2)) / 2).toNat
  have e1 : jAb a u b (v + 2) c (w + 2) = [(c + 1).toNat, ((a + u) / 2).toNat, ((a - u) / 2).toNat, ((b + v) / 2).toNat + 1, ((b - (v + 2)) / 2).toNat, ((c + w) / 2).toNat + 1, ((c - (w + 2)) / 2).toNat] := by
    unfold jAb
    simp only [List.cons.injEq, and_true, true_and]
    omega
  have e2 : jAb a u b v c w = [(c + 1).toNat, ((a + u) / 2).toNat, ((a - u) / 2).toNat, ((b + v) / 2).toNat, ((b - (v + 2)) / 2).toNat + 1, ((c + w) / 2).toNat, ((c - (w + 2)) / 2).toNat + 1] := by
    unfold jAb
    simp only [List.cons.injEq, and_true, true_and]
    omega
  rw [← e1, ← e2] at h
  have h' := congrArg (fun x : Nat => (x : Int)) h
  simp only [Int.natCast_mul, Int.natCast_add] at h'
  rw [show b - v = 2 * ((((b - (v + 2)) / 2).toNat : Nat) + ((1 : Nat) : Int)) by omega, show c - w = 2 * ((((c - (w + 2)) / 2).toNat : Nat) + ((1 : Nat) : Int)) by omega, show b + v + 2 = 2 * ((((b + v) / 2).toNat : Nat) + ((1 : Nat) : Int)) by omega, show c + w + 2 = 2 * ((((c + w) / 2).toNat : Nat) + ((1 : Nat) : Int)) by omega]
  grind
end TC
namespace TC
open TCX
/-! LDW (for k12): the sum in a joined number, one step down from both above it -/
theorem sum_none {A B C : Nat} {D E : Int} (h : E + A < 0) : sumK (tmK A B C D E) (A + 1) = 0 := by
  refine sumK_zero fun i hi => ?_
  have ok : ¬ okK A B C D E i = true := by
    unfold okK
    intro z
    have := of_decide_eq_true z
    omega
  unfold tmK
  rw [if_neg ok]
theorem jSum_down {a u b v c : Int} (ha : (a + u) % 2 = 0) (hb : (b + v) % 2 = 0) (hc : (a + b + c) % 2 = 0) (f1 : c ≤ a + b) (f2 : a ≤ b + c) (f3 : b ≤ a + c) (u0 : 0 ≤ a + u) (u1 : u ≤ a) (v0 : 0 ≤ b + v) (v1 : v ≤ b) :
    (c - (u + v)) * jSum a u b v c = (if v < b then (b + v + 2) * jSum a u b (v + 2) c else 0) + (if u < a then (a + u + 2) * jSum a (u + 2) b v c else 0) := by
  have h := sum_down (jA a b c) (jB a u) (jC b v) (jD b u c) (jE a v c)
  have g1 : ((jB a u : Nat) : Int) + jE a v c = (c - (u + v)) / 2 := by
    unfold jB jE
    omega
  have g1' : 2 * ((c - (u + v)) / 2) = c - (u + v) := by omega
  have g2 : 2 * (((jC b v : Nat) : Int) + 1) = b + v + 2 := by
    unfold jC
    omega
  have g3 : 2 * (jD b u c + (jA a b c : Nat) + 1) = a + u + 2 := by
    unfold jD jA
    omega
  rw [g1] at h
  have e1 : (if v < b then (b + v + 2) * jSum a u b (v + 2) c else 0) = 2 * (((jC b v : Nat) : Int) + 1) * sumK (tmK (jA a b c) (jB a u) (jC b v + 1) (jD b u c) (jE a v c - 1)) (jA a b c + 1) := by
    rw [g2]
    split
    · unfold jSum jT
      rw [show jC b (v + 2) = jC b v + 1 by unfold jC; omega, show jE a (v + 2) c = jE a v c - 1 by unfold jE; omega]
    · rw [sum_none (by unfold jE jA; omega), Int.mul_zero]
  have e2 : (if u < a then (a + u + 2) * jSum a (u + 2) b v c else 0) = 2 * (jD b u c + (jA a b c : Nat) + 1) * smB (jA a b c) (((jB a u : Nat) : Int) - 1) (jC b v) (jD b u c + 1) (jE a v c) := by
    rw [g3]
    unfold smB
    split
    · rw [if_neg (by unfold jB; omega)]
      unfold jSum jT
      rw [show jB a (u + 2) = (((jB a u : Nat) : Int) - 1).toNat by unfold jB; omega, show jD b (u + 2) c = jD b u c + 1 by unfold jD; omega]
    · rw [if_pos (by unfold jB; omega), Int.mul_zero]
  rw [e1, e2]
  show (c - (u + v)) * sumK (tmK (jA a b c) (jB a u) (jC b v) (jD b u c) (jE a v c)) (jA a b c + 1) = _
  generalize sumK (tmK (jA a b c) (jB a u) (jC b v) (jD b u c) (jE a v c)) (jA a b c + 1) = s at h ⊢
  rw [← g1', Int.mul_assoc, h]
  grind
end TC
namespace TC
open TCX
/-! LDV (for k12): the sums in the joined numbers at the top of a ladder -/
theorem sum_one {f : Nat → Int} {i : Nat} (h : ∀ k, k ≠ i → f k = 0) : ∀ m, i < m → sumK f m = f i
  | 0, hi => by omega
  | m + 1, hi => by
    rw [sumK_succ]
    by_cases e : i = m
    · subst e
      rw [sumK_zero fun k hk => h k (by omega), Int.zero_add]
    · rw [sum_one h m (by omega), h m (fun z => e z.symm), Int.add_zero]
theorem tm_top {n i C : Nat} {D : Int} (hi : i ≤ n) (hC : i ≤ C) (hD : 0 ≤ D + i) : sumK (tmK n i C D (-(i : Int))) (n + 1) = sgK i * ((binN n i : Nat) : Int) := by
  rw [sum_one (i := i) (fun k hk => ?_) (n + 1) (by omega)]
  · have ok : okK n i C D (-(i : Int)) i = true := by
      unfold okK
      exact decide_eq_true ⟨by omega, by omega, by omega, by omega, by omega⟩
    unfold tmK
    rw [if_pos ok]
    have e : comK n i C D (-(i : Int)) / botK n i C D (-(i : Int)) i = binN n i := by
      unfold comK botK binN
      rw [Nat.sub_self, show (((i : Nat) : Int) + D).toNat = (D + ((i : Nat) : Int)).toNat by omega, show ((C : Int) + -(i : Int)).toNat = C - i by omega, show (-(i : Int) + ((i : Nat) : Int)).toNat = 0 by omega, show factN 0 = 1 from rfl]
      have z : 0 < factN (D + ((i : Nat) : Int)).toNat * factN (C - i) := Nat.mul_pos (fact_pos _) (fact_pos _)
      rw [show factN n * factN (D + ((i : Nat) : Int)).toNat * factN (C - i) = factN n * (factN (D + ((i : Nat) : Int)).toNat * factN (C - i)) by grind, show factN i * factN (n - i) * 1 * factN (C - i) * factN (D + ((i : Nat) : Int)).toNat * 1 = factN i * factN (n - i) * (factN (D + ((i : Nat) : Int)).toNat * factN (C - i)) by grind]
      exact Nat.mul_div_mul_right _ _ z
    rw [e]
  · have ok : ¬ okK n i C D (-(i : Int)) k = true := by
      unfold okK
      intro z
      have := of_decide_eq_true z
      omega
    unfold tmK
    rw [if_neg ok]
/-- at the top the sum is one binomial, with its sign -/
theorem jSum_top {a u b v c : Int} (ha : (a + u) % 2 = 0) (hc : (a + b + c) % 2 = 0) (f1 : c ≤ a + b) (f2 : a ≤ b + c) (f3 : b ≤ a + c) (e : u + v = c) (u1 : u ≤ a) (v1 : v ≤ b) :
    jSum a u b v c = sgK ((a - u) / 2).toNat * ((binN ((a + b - c) / 2).toNat ((a - u) / 2).toNat : Nat) : Int) := by
  have h := tm_top (n := ((a + b - c) / 2).toNat) (i := ((a - u) / 2).toNat) (C := jC b v) (D := jD b u c) (by omega) (by unfold jC; omega) (by unfold jD; omega)
  rw [← h]
  unfold jSum jT jA jB
  rw [show jE a v c = -((((a - u) / 2).toNat : Nat) : Int) by unfold jE; omega]
/-- the square of each number at the top -/
theorem top_Ni {p r n i : Nat} (hi : i ≤ n) : ((prodF (jAb ((p : Int) + n) ((p : Int) + n - 2 * i) ((r : Int) + n) ((r : Int) - n + 2 * i) ((p : Int) + r) ((p : Int) + r)) : Nat) : Int) * (((binN n i : Nat) : Int) * ((binN n i : Nat) : Int)) * rs (p + r + 1) n = ((prodF (jBe ((p : Int) + n) ((r : Int) + n) ((p : Int) + r)) : Nat) : Int) * topN p r n i := by
  have e1 : jAb ((p : Int) + n) ((p : Int) + n - 2 * i) ((r : Int) + n) ((r : Int) - n + 2 * i) ((p : Int) + r) ((p : Int) + r) = [p + r + 1, p + (n - i), i, r + i, n - i, p + r, 0] := by
    unfold jAb
    simp only [List.cons.injEq, and_true]
    omega
  have e2 : jBe ((p : Int) + n) ((r : Int) + n) ((p : Int) + r) = [p + r, p + r + n + 1, n, p, r] := by
    unfold jBe
    simp only [List.cons.injEq, and_true]
    omega
  have h1 := rs_fact p (n - i)
  have h2 := rs_fact r i
  have h3 := rs_fact (p + r + 1) n
  rw [show p + r + 1 + n = p + r + n + 1 by omega] at h3
  have h4 := congrArg (fun x : Nat => (x : Int)) (bin_mul hi)
  simp only [Int.natCast_mul] at h4
  rw [e1, e2, prodF_7, show prodF [p + r, p + r + n + 1, n, p, r] = factN (p + r) * (factN (p + r + n + 1) * (factN n * (factN p * (factN r * 1)))) from rfl, show factN 0 = 1 from rfl]
  clear e1 e2
  unfold topN
  simp only [Int.natCast_mul, Int.natCast_one, Int.mul_one, Int.one_mul]
  rw [← h1, ← h2, ← h3, ← h4]
  generalize ((factN (p + r + 1) : Nat) : Int) = c1
  generalize ((factN p : Nat) : Int) = x3
  generalize ((factN r : Nat) : Int) = x5
  generalize ((factN i : Nat) : Int) = y
  generalize ((factN (n - i) : Nat) : Int) = w
  generalize ((factN (p + r) : Nat) : Int) = x7
  generalize rs (p + r + 1) n = s3
  generalize rs p (n - i) = s1
  generalize rs r i = s2
  generalize ((binN n i : Nat) : Int) = be
  grind
end TC
namespace TC
open TCX
/-! LDU (for k12): the step down, of numbers under one root -/
def kap (c w : Int) : Rat := ((c + w + 2 : Int) : Rat) / ((c - w : Int) : Rat)
theorem step_rat {X1 X0 B p q s t : Rat} (ht : t ≠ 0) (h : X1 * (q * t) = X0 * (p * s)) : X1 / B * (p * q) = X0 / B * (s / t) * (p * p) := by
  have e : X1 * q = X0 * p * (s / t) := by grind
  rw [Rat.div_def, Rat.div_def]
  grind
theorem jN_u {a u b v c w : Int} (hau : (a + u) % 2 = 0) (hcw : (c + w) % 2 = 0) (u0 : 0 ≤ a + u) (u1 : u + 2 ≤ a) (w0 : 0 ≤ c + w) (w1 : w + 2 ≤ c) :
    jN a (u + 2) b v c (w + 2) * (((a + u + 2) * (a - u) : Int) : Rat) = jN a u b v c w * kap c w * (((a + u + 2 : Int) : Rat) * ((a + u + 2 : Int) : Rat)) := by
  have h := congrArg (fun x : Int => (x : Rat)) (jAb_u (b := b) (v := v) hau hcw u0 u1 w0 w1)
  simp only [Rat.intCast_mul, Rat.intCast_natCast] at h
  have ht : ((c - w : Int) : Rat) ≠ 0 := by
    intro z
    have : c - w = 0 := by exact_mod_cast z
    omega
  rw [Rat.intCast_mul]
  exact step_rat ht h
theorem jN_v {a u b v c w : Int} (hbv : (b + v) % 2 = 0) (hcw : (c + w) % 2 = 0) (v0 : 0 ≤ b + v) (v1 : v + 2 ≤ b) (w0 : 0 ≤ c + w) (w1 : w + 2 ≤ c) :
    jN a u b (v + 2) c (w + 2) * (((b + v + 2) * (b - v) : Int) : Rat) = jN a u b v c w * kap c w * (((b + v + 2 : Int) : Rat) * ((b + v + 2 : Int) : Rat)) := by
  have h := congrArg (fun x : Int => (x : Rat)) (jAb_v (a := a) (u := u) hbv hcw v0 v1 w0 w1)
  simp only [Rat.intCast_mul, Rat.intCast_natCast] at h
  have ht : ((c - w : Int) : Rat) ≠ 0 := by
    intro z
    have : c - w = 0 := by exact_mod_cast z
    omega
  rw [Rat.intCast_mul]
  exact step_rat ht h
theorem kap_pos {c w : Int} (w0 : 0 ≤ c + w) (w1 : w + 2 ≤ c) : 0 < kap c w := by
  unfold kap
  have e1 : ((c + w + 2 : Int) : Rat) = (((c + w + 2).toNat : Nat) : Rat) := by
    rw [← Rat.intCast_natCast, Int.toNat_of_nonneg (by omega)]
  have e2 : ((c - w : Int) : Rat) = (((c - w).toNat : Nat) : Rat) := by
    rw [← Rat.intCast_natCast, Int.toNat_of_nonneg (by omega)]
  rw [e1, e2]
  exact quot_pos (by omega) (by omega)
theorem jN_pos (a u b v c w : Int) : 0 < jN a u b v c w := by
  have h : ∀ l : List Nat, 0 < prodF l := fun l => by
    induction l with
    | nil => decide
    | cons x l ih => exact Nat.mul_pos (fact_pos x) ih
  exact quot_pos (h _) (h _)
theorem int_pos {x : Int} (h : 0 < x) : (0 : Rat) < (x : Rat) := by
  rw [show x = ((x.toNat : Nat) : Int) by omega, Rat.intCast_natCast]
  exact pos_nat (by omega)
/-- a number above, times its root, under the root of the number below -/
theorem su_u {a u b v c w : Int} {K : List Part} {s : Rat} (hau : (a + u) % 2 = 0) (hcw : (c + w) % 2 = 0) (u0 : 0 ≤ a + u) (u1 : u + 2 ≤ a) (w0 : 0 ≤ c + w) (w1 : w + 2 ≤ c)
    (S : Su K (s * 1) (jN a (u + 2) b v c (w + 2) * (((a + u + 2) * (a - u) : Int) : Rat))) : Su K (s * ((a + u + 2 : Int) : Rat)) (jN a u b v c w * kap c w) := by
  have hp := int_pos (show 0 < a + u + 2 by omega)
  exact (S.of (Rat.mul_one s) (jN_u hau hcw u0 u1 w0 w1)).scale (Rat.mul_pos (jN_pos _ _ _ _ _ _) (kap_pos w0 w1)) hp
theorem su_v {a u b v c w : Int} {K : List Part} {s : Rat} (hbv : (b + v) % 2 = 0) (hcw : (c + w) % 2 = 0) (v0 : 0 ≤ b + v) (v1 : v + 2 ≤ b) (w0 : 0 ≤ c + w) (w1 : w + 2 ≤ c)
    (S : Su K (s * 1) (jN a u b (v + 2) c (w + 2) * (((b + v + 2) * (b - v) : Int) : Rat))) : Su K (s * ((b + v + 2 : Int) : Rat)) (jN a u b v c w * kap c w) := by
  have hp := int_pos (show 0 < b + v + 2 by omega)
  exact (S.of (Rat.mul_one s) (jN_v hbv hcw v0 v1 w0 w1)).scale (Rat.mul_pos (jN_pos _ _ _ _ _ _) (kap_pos w0 w1)) hp
/-- the whole of both, over the root of the part -/
theorem su_part {a u b v c w : Int} {K : List Part} {t s : Rat} (w0 : 0 ≤ c + w) (w1 : w + 2 ≤ c) (ht : t = ((c - w : Int) : Rat) * s)
    (S : Su K (t * Rat.divInt 1 ((c + w + 2) * (c - w))) (jN a u b v c w * kap c w * (((c + w + 2) * (c - w) : Int) : Rat))) : Su K s (jN a u b v c w) := by
  have hp := int_pos (show 0 < c + w + 2 by omega)
  have hq := int_pos (show 0 < c - w by omega)
  have p0 := ne_of_pos hp
  have q0 := ne_of_pos hq
  have e : jN a u b v c w * kap c w * (((c + w + 2) * (c - w) : Int) : Rat) = jN a u b v c w * (((c + w + 2 : Int) : Rat) * ((c + w + 2 : Int) : Rat)) := by
    unfold kap
    rw [Rat.intCast_mul, Rat.div_def]
    generalize ((c + w + 2 : Int) : Rat) = p at *
    generalize ((c - w : Int) : Rat) = q at *
    generalize jN a u b v c w = n
    grind
  refine ((S.of rfl e).scale (jN_pos _ _ _ _ _ _) hp).of ?_ rfl
  rw [ht, Rat.divInt_eq_div, Rat.intCast_mul, Rat.div_def]
  generalize ((c + w + 2 : Int) : Rat) = p at *
  generalize ((c - w : Int) : Rat) = q at *
  have o : ((1 : Int) : Rat) = 1 := rfl
  rw [o]
  grind
end TC
namespace TC
open TCX
/-! LDT (for k12): the numbers at the top, with the factor -/
theorem su_top {p r n i : Nat} {K : List Part} (hi : i ≤ n) (S : Su K ((sgK i : Int) : Rat) (Rat.divInt (topN p r n i) (rs p n) * Rat.divInt (rs p n) (rs (p + r + 1) n))) :
    Su K ((jSum ((p : Int) + n) ((p : Int) + n - 2 * i) ((r : Int) + n) ((r : Int) - n + 2 * i) ((p : Int) + r) : Int) : Rat) (jN ((p : Int) + n) ((p : Int) + n - 2 * i) ((r : Int) + n) ((r : Int) - n + 2 * i) ((p : Int) + r) ((p : Int) + r)) := by
  have hS := jSum_top (a := (p : Int) + n) (u := (p : Int) + n - 2 * i) (b := (r : Int) + n) (v := (r : Int) - n + 2 * i) (c := (p : Int) + r) (by omega) (by omega) (by omega) (by omega) (by omega) (by omega) (by omega) (by omega)
  rw [show (((p : Int) + n - ((p : Int) + n - 2 * i)) / 2).toNat = i by omega, show (((p : Int) + n + ((r : Int) + n) - ((p : Int) + r)) / 2).toNat = n by omega] at hS
  have hN := congrArg (fun x : Int => (x : Rat)) (top_Ni (p := p) (r := r) hi)
  simp only [Rat.intCast_mul, Rat.intCast_natCast] at hN
  have b0 : 0 < binN n i := by
    refine Nat.pos_of_ne_zero fun z => ?_
    have := bin_mul hi
    rw [z, Nat.zero_mul] at this
    have := fact_pos n
    omega
  have bp := pos_nat b0
  have P0 := ne_of_pos (int_pos (rs_pos p n))
  have Q0 := ne_of_pos (int_pos (rs_pos (p + r + 1) n))
  have B0 : ((prodF (jBe ((p : Int) + n) ((r : Int) + n) ((p : Int) + r)) : Nat) : Rat) ≠ 0 := by
    have h : ∀ l : List Nat, 0 < prodF l := fun l => by
      induction l with
      | nil => decide
      | cons x l ih => exact Nat.mul_pos (fact_pos x) ih
    exact ne_of_pos (pos_nat (h _))
  have e : Rat.divInt (topN p r n i) (rs p n) * Rat.divInt (rs p n) (rs (p + r + 1) n) = jN ((p : Int) + n) ((p : Int) + n - 2 * i) ((r : Int) + n) ((r : Int) - n + 2 * i) ((p : Int) + r) ((p : Int) + r) * (((binN n i : Nat) : Rat) * ((binN n i : Nat) : Rat)) := by
    unfold jN
    rw [Rat.divInt_eq_div, Rat.divInt_eq_div, Rat.div_def, Rat.div_def, Rat.div_def]
    generalize ((topN p r n i : Int) : Rat) = t at *
    generalize ((rs p n : Int) : Rat) = x at *
    generalize ((rs (p + r + 1) n : Int) : Rat) = y at *
    generalize ((binN n i : Nat) : Rat) = be at *
    generalize ((prodF (jBe ((p : Int) + n) ((r : Int) + n) ((p : Int) + r)) : Nat) : Rat) = q at *
    generalize ((prodF (jAb ((p : Int) + n) ((p : Int) + n - 2 * i) ((r : Int) + n) ((r : Int) - n + 2 * i) ((p : Int) + r) ((p : Int) + r)) : Nat) : Rat) = m at *
    grind
  refine ((S.of rfl e).scale (jN_pos _ _ _ _ _ _) bp).of ?_ rfl
  rw [hS, Rat.intCast_mul, Rat.intCast_natCast]
end TC
/-! dicts from whole numbers to whole numbers, and their pairing with functions. -/
namespace TCX
open PySem PySem.Spec PyProof.Rows L2
def addKey (ks : List Int) (r : Int) : List Int := if r ∈ ks then ks else ks ++ [r]
theorem addKey_len (ks : List Int) (r : Int) : (addKey ks r).length ≤ ks.length + 1 := by
  unfold addKey
  split
  · omega
  · rw [List.length_append, List.length_singleton]
    exact Nat.le_refl _
theorem mem_addKey {ks : List Int} {r s : Int} : s ∈ addKey ks r ↔ s ∈ ks ∨ s = r := by
  unfold addKey
  split
  · rename_i h
    exact ⟨.inl, fun z => z.elim id fun e => e ▸ h⟩
  · simp
theorem inl_ne {a b : Int} (h : a ≠ b) : (Sum.inl a : Key) ≠ Sum.inl b := fun e => h (Sum.inl.inj e)
theorem valV_out {kvs : List (Key × V)} {ks : List Int} {r : Int} (e : kvs.map (·.1) = ks.map (Sum.inl : Int → Key)) (h : r ∉ ks) : valV kvs (Sum.inl r : Key) = none := by
  cases z : valV kvs (Sum.inl r : Key) with
  | none => rfl
  | some v =>
    have m := valV_in z
    rw [e] at m
    obtain ⟨s, hs, es⟩ := List.mem_map.mp m
    exact absurd (Sum.inl.inj es ▸ hs) h
theorem keys_put {kvs : List (Key × V)} {ks : List Int} {r : Int} {v : V} (e : kvs.map (·.1) = ks.map (Sum.inl : Int → Key)) : (putK kvs (Sum.inl r : Key) v).map (·.1) = (addKey ks r).map (Sum.inl : Int → Key) := by
  unfold putK addKey
  by_cases h : r ∈ ks
  · have a : (kvs.any fun kv => decide (kv.1 = (Sum.inl r : Key))) = true := by
      have m : (Sum.inl r : Key) ∈ kvs.map (·.1) := by
        rw [e]
        exact List.mem_map.mpr ⟨r, h, rfl⟩
      obtain ⟨p, hp, ep⟩ := List.mem_map.mp m
      exact List.any_eq_true.mpr ⟨p, hp, decide_eq_true ep⟩
    rw [if_pos a, if_pos h, List.map_map, ← e]
    refine List.map_congr_left fun kv _ => ?_
    show (if kv.1 = (Sum.inl r : Key) then (kv.1, v) else kv).1 = kv.1
    split <;> rfl
  · have a : ¬ (kvs.any fun kv => decide (kv.1 = (Sum.inl r : Key))) = true := by
      rw [valV_any, valV_out e h]
      decide
    rw [if_neg a, if_neg h, List.map_append, List.map_append, e]
    rfl
theorem nd_addKey {ks : List Int} {r : Int} (h : ks.Nodup) : (addKey ks r).Nodup := by
  unfold addKey
  split
  · exact h
  · rename_i z
    rw [List.nodup_append]
    refine ⟨h, by simp, fun a ha b hb => ?_⟩
    rw [List.mem_singleton.mp hb]
    exact fun e => z (e ▸ ha)
theorem dget_in {H : Hp} {d : Addr} {kvs : List (Key × V)} {r : Int} {v : V} (e : H d = some (.dK kvs)) (h : valV kvs (Sum.inl r : Key) = some v) : DGet H d (.int r) (some v) := by
  have z := DGet.k (k := (Sum.inl r : Key)) e
  rw [h] at z
  exact z
theorem dget_out {H : Hp} {d : Addr} {kvs : List (Key × V)} {r : Int} (e : H d = some (.dK kvs)) (h : valV kvs (Sum.inl r : Key) = none) : DGet H d (.int r) none := by
  have z := DGet.k (k := (Sum.inl r : Key)) e
  rw [h] at z
  exact z
theorem len_keys {kvs : List (Key × V)} {ks : List Int} (e : kvs.map (·.1) = ks.map (Sum.inl : Int → Key)) : kvs.length = ks.length := by
  have := congrArg List.length e
  simpa using this
theorem key_at {kvs : List (Key × V)} {ks : List Int} {i : Nat} {k : Key} {v : V} (e : kvs.map (·.1) = ks.map (Sum.inl : Int → Key)) (h : kvs[i]? = some (k, v)) : ∃ r, ks[i]? = some r ∧ k = Sum.inl r := by
  have z : (kvs.map (·.1))[i]? = some k := by
    rw [List.getElem?_map, h]
    rfl
  rw [e, List.getElem?_map] at z
  cases q : ks[i]? with
  | none =>
    rw [q] at z
    cases z
  | some r =>
    rw [q] at z
    exact ⟨r, rfl, (Option.some.inj z).symm⟩
def IntD (H : Hp) (d : Addr) (ks : List Int) (t : Int → Int) : Prop := ∃ kvs, H d = some (.dK kvs) ∧ kvs.map (·.1) = ks.map (Sum.inl : Int → Key) ∧ (∀ r ∈ ks, valV kvs (Sum.inl r : Key) = some (.int (t r))) ∧ ks.Nodup ∧ ∀ r, r ∉ ks → t r = 0
theorem IntD.same {H H' : Hp} {d : Addr} {ks : List Int} {t : Int → Int} (e : Same H H') (h : IntD H d ks t) : IntD H' d ks t := by
  obtain ⟨kvs, h1, h2⟩ := h
  exact ⟨kvs, e _ _ h1, h2⟩
theorem IntD.upd {H : Hp} {d l : Addr} {o : HO} {ks : List Int} {t : Int → Int} (n : d ≠ l) (h : IntD H d ks t) : IntD (L2.upd H l o) d ks t := by
  obtain ⟨kvs, h1, h2⟩ := h
  exact ⟨kvs, by rw [upd_ne n]; exact h1, h2⟩
theorem IntD.imp {H : Hp} {d : Addr} {ks : List Int} {t t' : Int → Int} (h : IntD H d ks t) (e : ∀ r, t r = t' r) : IntD H d ks t' := by
  have : t = t' := funext e
  rw [← this]
  exact h
def setI (t : Int → Int) (r z : Int) : Int → Int := fun s => if s = r then z else t s
theorem putI_ok {H : Hp} {d : Addr} {kvs : List (Key × V)} {ks : List Int} {t : Int → Int} {r z : Int} (ek : kvs.map (·.1) = ks.map (Sum.inl : Int → Key))
    (hv : ∀ r ∈ ks, valV kvs (Sum.inl r : Key) = some (.int (t r))) (nd : ks.Nodup) (out : ∀ r, r ∉ ks → t r = 0) :
    IntD (upd H d (.dK (putK kvs (Sum.inl r : Key) (.int z)))) d (addKey ks r) (setI t r z) := by
  refine ⟨_, upd_same, keys_put ek, fun s hs => ?_, nd_addKey nd, fun s hs => ?_⟩
  · rw [valV_put]
    by_cases es : s = r
    · rw [es, if_pos rfl]
      show some (V.int z) = some (V.int (if r = r then z else t r))
      rw [if_pos rfl]
    · have hs' : s ∈ ks := (mem_addKey.mp hs).resolve_right es
      rw [if_neg (inl_ne es), hv s hs']
      show _ = some (V.int (if s = r then z else t s))
      rw [if_neg es]
  · have h1 : s ∉ ks := fun z => hs (mem_addKey.mpr (.inl z))
    have h2 : s ≠ r := fun z => hs (mem_addKey.mpr (.inr z))
    show (if s = r then z else t s) = 0
    rw [if_neg h2, out s h1]
theorem valV_get : ∀ {kvs : List (Key × V)} {i : Nat} {k : Key} {v : V}, (kvs.map (·.1)).Nodup → kvs[i]? = some (k, v) → valV kvs k = some v
  | [], i, k, v, _, h => by simp at h
  | p :: kvs, 0, k, v, _, h => by
    have e : p = (k, v) := by simpa using h
    rw [e]
    exact valV_pos rfl
  | p :: kvs, i + 1, k, v, nd, h => by
    have h' : kvs[i]? = some (k, v) := by simpa using h
    have n := List.nodup_cons.mp nd
    rw [valV_neg fun e => n.1 (by
      show p.1 ∈ _
      rw [e]
      exact List.mem_map.mpr ⟨_, List.mem_of_getElem? h', rfl⟩)]
    exact valV_get n.2 h'
theorem int_at {kvs : List (Key × V)} {ks : List Int} {t : Int → Int} {i : Nat} {x y : V} (e2 : kvs.map (·.1) = ks.map (Sum.inl : Int → Key)) (e3 : ∀ r ∈ ks, valV kvs (Sum.inl r : Key) = some (.int (t r))) (nd : ks.Nodup)
    (hx : (kvs[i]?.map fun kv => kV kv.1) = some x) (hy : (kvs[i]?.map Prod.snd) = some y) : ∃ r, ks[i]? = some r ∧ x = .int r ∧ y = .int (t r) := by
  cases e : kvs[i]? with
  | none =>
    rw [e] at hx
    cases hx
  | some kv =>
    obtain ⟨k, v⟩ := kv
    rw [e] at hx hy
    obtain ⟨r, hr, rfl⟩ := key_at e2 e
    have ndk : (kvs.map (·.1)).Nodup := by
      rw [e2]
      exact List.pairwise_map.mpr (nd.imp fun {a b} z => inl_ne z)
    have hv := valV_get ndk e
    rw [e3 r (List.mem_of_getElem? hr)] at hv
    refine ⟨r, hr, (Option.some.inj hx).symm, ?_⟩
    rw [Option.some.inj hv]
    exact (Option.some.inj hy).symm
/-- the pairing of a dict with a function -/
def pairI (ks : List Int) (t g : Int → Int) : Int := (ks.map fun r => t r * g r).sum
theorem pair_congr {ks : List Int} {t t' g : Int → Int} (h : ∀ r ∈ ks, t r = t' r) : pairI ks t g = pairI ks t' g := by
  unfold pairI
  congr 1
  exact List.map_congr_left fun r hr => by rw [h r hr]
theorem pair_set : ∀ {ks : List Int} {t g : Int → Int} {r z : Int}, ks.Nodup → r ∈ ks → pairI ks (setI t r z) g = pairI ks t g + (z - t r) * g r
  | [], _, _, _, _, _, h => by cases h
  | a :: ks, t, g, r, z, nd, h => by
    have n := List.nodup_cons.mp nd
    show setI t r z a * g a + pairI ks (setI t r z) g = (t a * g a + pairI ks t g) + (z - t r) * g r
    by_cases e : a = r
    · subst e
      rw [pair_congr (t := setI t a z) (t' := t) fun s hs => if_neg fun (e : s = a) => n.1 (e ▸ hs)]
      show (if a = a then z else t a) * g a + _ = _
      rw [if_pos rfl, Int.sub_mul]
      omega
    · have hr : r ∈ ks := (List.mem_cons.mp h).resolve_left fun z => e z.symm
      rw [pair_set n.2 hr]
      show (if a = r then z else t a) * g a + _ = _
      rw [if_neg e]
      omega
theorem pair_put {ks : List Int} {t g : Int → Int} {r c : Int} (nd : ks.Nodup) (out : ∀ s, s ∉ ks → t s = 0) : pairI (addKey ks r) (setI t r (t r + c)) g = pairI ks t g + c * g r := by
  unfold addKey
  split
  · rename_i h
    rw [pair_set nd h]
    congr 1
    congr 1
    omega
  · rename_i h
    have e : pairI (ks ++ [r]) (setI t r (t r + c)) g = pairI ks (setI t r (t r + c)) g + setI t r (t r + c) r * g r := by
      unfold pairI
      rw [List.map_append, List.sum_append]
      show _ + (setI t r (t r + c) r * g r + 0) = _
      rw [Int.add_zero]
    rw [e, pair_congr (t := setI t r (t r + c)) (t' := t) fun s hs => if_neg fun (e : s = r) => h (e ▸ hs)]
    show _ + (if r = r then t r + c else t r) * g r = _
    rw [if_pos rfl, out r h]
    simp
/-- one at a number, else 0 -/
def one (u : Int) : Int → Int := fun y => if y = u then 1 else 0
theorem pair_one : ∀ {ks : List Int} {t : Int → Int} {u : Int}, ks.Nodup → (∀ s, s ∉ ks → t s = 0) → pairI ks t (one u) = t u
  | [], t, u, _, out => by
    rw [out u (by simp)]
    rfl
  | a :: ks, t, u, nd, out => by
    have n := List.nodup_cons.mp nd
    show t a * one u a + pairI ks t (one u) = t u
    by_cases e : a = u
    · subst e
      have z : pairI ks t (one a) = 0 := by
        unfold pairI
        have : (ks.map fun r => t r * one a r) = ks.map fun _ => (0 : Int) := List.map_congr_left fun r hr => by
          unfold one
          rw [if_neg fun (e : r = a) => n.1 (e ▸ hr), Int.mul_zero]
        rw [this]
        clear this n nd out
        induction ks with
        | nil => rfl
        | cons b ks ih => simpa using ih
      rw [z]
      unfold one
      rw [if_pos rfl]
      omega
    · have z : pairI ks t (one u) = setI t a 0 u := by
        rw [pair_congr (t := t) (t' := setI t a 0) fun s hs => by
          unfold setI
          rw [if_neg fun (e : s = a) => n.1 (e ▸ hs)]]
        refine pair_one n.2 fun s hs => ?_
        unfold setI
        split
        · rfl
        · rename_i h
          exact out s fun m => (List.mem_cons.mp m).elim h hs
      rw [z]
      unfold setI one
      rw [if_neg e, if_neg fun x => e x.symm]
      omega
/-- a dict known by its pairing; its keys within bounds -/
def IntP (H : Hp) (d : Addr) (lo hi : Int) (X : (Int → Int) → Int) : Prop := ∃ ks t, IntD H d ks t ∧ (∀ g, pairI ks t g = X g) ∧ ∀ r ∈ ks, lo ≤ r ∧ r ≤ hi
theorem IntP.same {H H' : Hp} {d : Addr} {lo hi : Int} {X : (Int → Int) → Int} (e : Same H H') (h : IntP H d lo hi X) : IntP H' d lo hi X := by
  obtain ⟨ks, t, h1, h2⟩ := h
  exact ⟨ks, t, h1.same e, h2⟩
/-- as many keys as there are numbers between the bounds, at most -/
theorem nodup_len {lo : Int} : ∀ (n : Nat) {ks : List Int}, ks.Nodup → (∀ r ∈ ks, lo ≤ r ∧ r < lo + n) → ks.length ≤ n
  | 0, [], _, _ => Nat.le_refl _
  | 0, a :: ks, _, h => by
    have := h a (by simp)
    omega
  | n + 1, ks, nd, h => by
    have hl : (ks.filter fun r => decide (r ≠ lo + n)).length ≤ n := by
      refine nodup_len (lo := lo) n (nd.filter _) fun r hr => ?_
      obtain ⟨m, e⟩ := List.mem_filter.mp hr
      have := h r m
      have e' : r ≠ lo + n := by simpa using e
      omega
    have e : ks.length ≤ (ks.filter fun r => decide (r ≠ lo + n)).length + 1 := by
      clear hl h
      induction ks with
      | nil => simp
      | cons a ks ih =>
        have n2 := List.nodup_cons.mp nd
        by_cases ea : a = lo + n
        · have : (ks.filter fun r => decide (r ≠ lo + n)) = ks := List.filter_eq_self.mpr fun r hr => decide_eq_true fun e => n2.1 (by rw [ea, ← e]; exact hr)
          rw [List.filter_cons, if_neg (by rw [decide_eq_false (by simpa using ea)]; exact Bool.false_ne_true), this]
          exact Nat.le_refl _
        · rw [List.filter_cons, if_pos (decide_eq_true ea), List.length_cons, List.length_cons]
          exact Nat.succ_le_succ (ih n2.2)
    omega
end TCX
namespace TC
set_option exponentiation.threshold 20000
open PySem PySem.Spec PyProof.Rows L2 TCA TCX
/-! ### K12NA: dicts of numbers; bounds at the top of a ladder -/
theorem bEr {K : PySem.W.Frag} {f : Addr} {fd : FuncData} (F : FnE K f fd) : ∃ mv : List Value, KBn K fd psE 1 ["root"] (fun us ws => us ++ (mv ++ ws)) (fun vs zs => vs ++ ([.int 1] ++ zs)) :=
  kbinds0 F (ps := psE) 1 ["root"] [("bottom", .int 1)] (fun us mv ws => us ++ (mv ++ ws)) (by intro z; cases z) (fun q hq => by
    rw [List.mem_singleton.mp hq]
    exact List.mem_cons_self ..) (fun a b c => a.append (b.append c)) fun D doc pm an cdv ct us mv ws h1 h2 h3 => match us, mv, ws, h1, h2, h3 with
    | [_], [_], [_], _, _, _ => ⟨_, _, _, _, _, _, rfl, rfl, rfl⟩
theorem sizeD2 {a b : Int} {n : Nat} (h : a - b = 2 * n) : Builtin.Range.rangeSize a b (-2) = n := by
  unfold Builtin.Range.rangeSize
  rw [if_neg (by decide), show (- -2 : Int) = 2 from rfl]
  split <;> omega
theorem smallD2 {a b : Int} {n : Nat} (h : a - b = 2 * n) (ha : -100000 ≤ a) (ha' : a < 100000) (hb : -100000 ≤ b) (hb' : b < 100000) : Builtin.Range.small a b (-2) = true := by
  unfold Builtin.Range.small
  rw [sizeD2 h]
  simp only [Builtin.Range.rangeFitsLong, Bool.and_eq_true, Bool.or_eq_true, decide_eq_true_eq, beq_iff_eq, show ¬ ((-2 : Int) > 0) by decide, if_false]
  omega
/-! ### dicts of numbers -/
theorem upd_ne_dK {H : Hp} {d z : Addr} {kvs : List (Key × V)} {o o' : HO} (hd : H d = some (.dK kvs)) (hz : H z = some o') (hk : ∀ k, o' ≠ .dK k) : L2.upd H d o z = some o' := by
  rw [upd_ne fun e => by rw [e, hd] at hz; exact hk _ (Option.some.inj hz).symm]
  exact hz
theorem NumAt.updD {C : Addr} {H : Hp} {d x : Addr} {o : HO} {kvs : List (Key × V)} {L : List Part} (hd : H d = some (.dK kvs)) (h : NumAt C H x L) : NumAt C (L2.upd H d o) x L := by
  obtain ⟨dx, p, h1, us, h2, h3⟩ := h
  refine ⟨dx, p, upd_ne_dK hd h1 (fun k z => by cases z), us, upd_ne_dK hd h2 (fun k z => by cases z), h3.upd fun z e => ?_⟩
  rw [hd] at e
  cases e
abbrev kvI (ks : List Int) (ad : Int → Addr) : List (Key × V) := ks.map fun k => ((Sum.inl k : Key), V.ref (ad k))
def setAI (ad : Int → Addr) (r : Int) (z : Addr) : Int → Addr := fun k => if k = r then z else ad k
theorem put_newI {kvs : List (Key × V)} {k : Key} {v : V} (h : ∀ p ∈ kvs, p.1 ≠ k) : putK kvs k v = kvs ++ [(k, v)] := by
  unfold putK
  rw [if_neg]
  intro z
  obtain ⟨p, hp, e⟩ := List.any_eq_true.mp z
  exact h p hp (of_decide_eq_true e)
theorem kvI_put {ks : List Int} {ad : Int → Addr} {r : Int} {z : Addr} (h : r ∉ ks) : putK (kvI ks ad) (Sum.inl r : Key) (.ref z) = kvI (ks ++ [r]) (setAI ad r z) := by
  rw [put_newI fun p hp => ?_]
  · rw [kvI, kvI, List.map_append]
    congr 1
    · refine List.map_congr_left fun k hk => ?_
      unfold setAI
      rw [if_neg fun (e : k = r) => h (e ▸ hk)]
    · show _ = [((Sum.inl r : Key), V.ref (if r = r then z else ad r))]
      rw [if_pos rfl]
  · obtain ⟨k, hk, rfl⟩ := List.mem_map.mp hp
    intro e
    exact h (Sum.inl.inj e ▸ hk)
theorem kvI_val {ks : List Int} {ad : Int → Addr} {r : Int} (h : r ∈ ks) : valV (kvI ks ad) (Sum.inl r : Key) = some (.ref (ad r)) := by
  induction ks with
  | nil => cases h
  | cons k ks ih =>
    by_cases e : k = r
    · subst e
      exact valV_pos rfl
    · rw [show kvI (k :: ks) ad = ((Sum.inl k : Key), V.ref (ad k)) :: kvI ks ad from rfl, valV_neg fun z => e (Sum.inl.inj z)]
      exact ih ((List.mem_cons.mp h).resolve_left fun z => e z.symm)
structure NumD (C : Addr) (Pr : Int → List Part → Prop) (H : Hp) (d : Addr) (ks : List Int) (ad : Int → Addr) : Prop where
  at_ : H d = some (.dK (kvI ks ad))
  v : ∀ k ∈ ks, ∃ L, NumAt C H (ad k) L ∧ Pr k L
theorem NumD.same {C : Addr} {Pr : Int → List Part → Prop} {H H' : Hp} {d : Addr} {ks : List Int} {ad : Int → Addr} (h : NumD C Pr H d ks ad) (s : Same H H') : NumD C Pr H' d ks ad :=
  ⟨s _ _ h.at_, fun k hk => by
    obtain ⟨L, a, b⟩ := h.v k hk
    exact ⟨L, a.same s, b⟩⟩
theorem NumD.updD {C : Addr} {Pr : Int → List Part → Prop} {H : Hp} {d d' : Addr} {ks : List Int} {ad : Int → Addr} {kvs : List (Key × V)} {o : HO} (h : NumD C Pr H d ks ad) (hd : H d' = some (.dK kvs)) (n : d ≠ d') : NumD C Pr (L2.upd H d' o) d ks ad :=
  ⟨by rw [upd_ne n]; exact h.at_, fun k hk => by
    obtain ⟨L, a, b⟩ := h.v k hk
    exact ⟨L, a.updD hd, b⟩⟩
theorem NumD.put {C : Addr} {Pr : Int → List Part → Prop} {H : Hp} {d z : Addr} {ks : List Int} {ad : Int → Addr} {r : Int} {L : List Part} (h : NumD C Pr H d ks ad) (hr : r ∉ ks) (hz : NumAt C H z L) (hp : Pr r L) :
    NumD C Pr (L2.upd H d (.dK (putK (kvI ks ad) (Sum.inl r : Key) (.ref z)))) d (ks ++ [r]) (setAI ad r z) := by
  refine ⟨by rw [kvI_put hr]; exact upd_same, fun k hk => ?_⟩
  unfold setAI
  by_cases e : k = r
  · subst e
    rw [if_pos rfl]
    exact ⟨L, hz.updD h.at_, hp⟩
  · rw [if_neg e]
    obtain ⟨M, a, b⟩ := h.v k ((List.mem_append.mp hk).resolve_right fun m => e (List.mem_singleton.mp m))
    exact ⟨M, a.updD h.at_, b⟩
theorem NumD.empty {C : Addr} {Pr : Int → List Part → Prop} {H : Hp} {d : Addr} {ad : Int → Addr} (h : H d = some (.dK [])) : NumD C Pr H d [] ad := ⟨h, fun k hk => by cases hk⟩
theorem NumAt.updF {C : Addr} {H : Hp} {d x : Addr} {o o2 : HO} {k : Obj} {L : List Part} (hd : H d = some (.frz k o2)) (h : NumAt C H x L) : NumAt C (L2.upd H d o) x L := by
  obtain ⟨dx, p, h1, us, h2, h3⟩ := h
  refine ⟨dx, p, ?_, us, ?_, h3.upd fun z e => ?_⟩
  · rw [upd_ne fun e => by rw [e, hd] at h1; cases h1]
    exact h1
  · rw [upd_ne fun e => by rw [e, hd] at h2; cases h2]
    exact h2
  · rw [hd] at e
    cases e
theorem NumD.updF {C : Addr} {Pr : Int → List Part → Prop} {H : Hp} {d d' : Addr} {ks : List Int} {ad : Int → Addr} {k : Obj} {o o2 : HO} (h : NumD C Pr H d ks ad) (hd : H d' = some (.frz k o2)) (n : d ≠ d') : NumD C Pr (L2.upd H d' o) d ks ad :=
  ⟨by rw [upd_ne n]; exact h.at_, fun k hk => by
    obtain ⟨L, a, b⟩ := h.v k hk
    exact ⟨L, a.updF hd, b⟩⟩
/-! ### bounds -/
theorem fact_le2 (m n : Nat) : factN m * factN n ≤ factN (m + n) := by
  have h := bin_mul (show m ≤ m + n by omega)
  rw [show m + n - m = n by omega] at h
  rw [← h]
  refine Nat.le_mul_of_pos_left _ (Nat.pos_of_ne_zero fun z => ?_)
  rw [z, Nat.zero_mul] at h
  have := fact_pos (m + n)
  omega
theorem fact_up {m n : Nat} (h : m ≤ n) : factN m ≤ factN n := by
  have z := fact_le2 m (n - m)
  rw [show m + (n - m) = n by omega] at z
  exact Nat.le_trans (Nat.le_mul_of_pos_right _ (fact_pos _)) z
theorem fact40 {m n : Nat} (h : m + n ≤ 40) : factN m * factN n < 2 ^ 160 := Nat.lt_of_le_of_lt (Nat.le_trans (fact_le2 m n) (fact_up h)) (by decide +kernel)
theorem jAb_bd {a u b v c w : Int} (h1 : PairP a u) (h2 : PairP b v) (h3 : PairP c w) : prodF (jAb a u b v c w) < 2 ^ 700 := by
  obtain ⟨a0, a1, a2, a3, a4⟩ := h1
  obtain ⟨b0, b1, b2, b3, b4⟩ := h2
  obtain ⟨c0, c1, c2, c3, c4⟩ := h3
  unfold jAb
  rw [prodF_7]
  have e1 : factN (c + 1).toNat < 2 ^ 170 := Nat.lt_of_le_of_lt (fact_up (show (c + 1).toNat ≤ 41 by omega)) (by decide +kernel)
  have e2 := fact40 (m := ((a + u) / 2).toNat) (n := ((a - u) / 2).toNat) (by omega)
  have e3 := fact40 (m := ((b + v) / 2).toNat) (n := ((b - v) / 2).toNat) (by omega)
  have e4 := fact40 (m := ((c + w) / 2).toNat) (n := ((c - w) / 2).toNat) (by omega)
  rw [← Nat.mul_assoc (factN ((a + u) / 2).toNat), ← Nat.mul_assoc (factN ((b + v) / 2).toNat)]
  refine Nat.lt_of_lt_of_le (Nat.mul_lt_mul'' e1 (Nat.mul_lt_mul'' e2 (Nat.mul_lt_mul'' e3 e4))) ?_
  rw [← Nat.pow_add, ← Nat.pow_add, ← Nat.pow_add]
  exact Nat.pow_le_pow_right (by decide) (by decide)
theorem jBe_bd {a b c : Int} (a0 : 0 ≤ a) (a1 : a ≤ 40) (b0 : 0 ≤ b) (b1 : b ≤ 40) (c0 : 0 ≤ c) (c1 : c ≤ 40) (t1 : a ≤ b + c) (t2 : b ≤ a + c) (t3 : c ≤ a + b) : prodF (jBe a b c) < 2 ^ 770 := by
  unfold jBe
  have e0 : prodF [c.toNat, ((a + b + c) / 2 + 1).toNat, ((a + b - c) / 2).toNat, ((a - b + c) / 2).toNat, ((b - a + c) / 2).toNat] = factN c.toNat * (factN ((a + b + c) / 2 + 1).toNat * ((factN ((a + b - c) / 2).toNat * factN ((a - b + c) / 2).toNat) * factN ((b - a + c) / 2).toNat)) := by
    show factN c.toNat * (factN ((a + b + c) / 2 + 1).toNat * (factN ((a + b - c) / 2).toNat * (factN ((a - b + c) / 2).toNat * (factN ((b - a + c) / 2).toNat * 1)))) = _
    rw [Nat.mul_one, Nat.mul_assoc (factN ((a + b - c) / 2).toNat)]
  rw [e0]
  have e1 : factN c.toNat < 2 ^ 160 := Nat.lt_of_le_of_lt (fact_up (show c.toNat ≤ 40 by omega)) (by decide +kernel)
  have e2 : factN ((a + b + c) / 2 + 1).toNat < 2 ^ 280 := Nat.lt_of_le_of_lt (fact_up (show ((a + b + c) / 2 + 1).toNat ≤ 61 by omega)) (by decide +kernel)
  have e3 := fact40 (m := ((a + b - c) / 2).toNat) (n := ((a - b + c) / 2).toNat) (by omega)
  have e4 : factN ((b - a + c) / 2).toNat < 2 ^ 160 := Nat.lt_of_le_of_lt (fact_up (show ((b - a + c) / 2).toNat ≤ 40 by omega)) (by decide +kernel)
  refine Nat.lt_of_lt_of_le (Nat.mul_lt_mul'' e1 (Nat.mul_lt_mul'' e2 (Nat.mul_lt_mul'' e3 e4))) ?_
  rw [← Nat.pow_add, ← Nat.pow_add, ← Nat.pow_add]
  exact Nat.pow_le_pow_right (by decide) (by decide)
theorem prodF_pos : ∀ l : List Nat, 0 < prodF l
  | [] => by decide
  | x :: l => Nat.mul_pos (fact_pos x) (prodF_pos l)
/-- the numbers of a level: those with third offset w -/
def LvP (a b c w : Int) (u : Int) (L : List Part) : Prop := SuB L ((jSum a u b (w - u) c : Int) : Rat) (jN a u b (w - u) c w) 900 780
theorem lv_of {a u b c w : Int} {L : List Part} (h1 : PairP a u) (h2 : PairP b (w - u)) (h3 : PairP c w) (j : JoinP a b c u (w - u) w) (S : Su L ((jSum a u b (w - u) c : Int) : Rat) (jN a u b (w - u) c w)) : LvP a b c w u L := by
  obtain ⟨k1, k2, k3, k4⟩ := canB_iff.mp j.1
  have e1 := jSum_lt h1 h2 h3 j
  have e2 := jAb_bd h1 h2 h3
  have e3 := jBe_bd h1.t0 h1.t1 h2.t0 h2.t1 h3.t0 h3.t1 k2 k3 k4
  refine ⟨S, jSum a u b (w - u) c, 1, _, _, (Rat.num_divInt_den ((jSum a u b (w - u) c : Int) : Rat)).symm, rfl, by decide, prodF_pos _, prodF_pos _, e1, Nat.one_lt_two_pow (by decide), Nat.lt_of_lt_of_le e2 (Nat.pow_le_pow_right (by decide) (by decide)), Nat.lt_of_lt_of_le e3 (Nat.pow_le_pow_right (by decide) (by decide))⟩
theorem rs_le : ∀ p i, rs p i ≤ ((2 ^ (p + i) : Nat) : Int)
  | 0, i => by
    show (1 : Int) ≤ _
    have := Nat.pow_pos (a := 2) (n := 0 + i) (by decide)
    omega
  | p + 1, 0 => by
    rw [rs_zero]
    have := Nat.pow_pos (a := 2) (n := p + 1 + 0) (by decide)
    omega
  | p + 1, i + 1 => by
    have h1 := rs_le p (i + 1)
    have h2 := rs_le (p + 1) i
    rw [rs_ss]
    have e1 : 2 ^ (p + (i + 1)) = 2 ^ (p + i + 1) := by rw [Nat.add_assoc]
    have e2 : 2 ^ (p + 1 + i) = 2 ^ (p + i + 1) := by congr 1; omega
    have e3 : 2 ^ (p + 1 + (i + 1)) = 2 ^ (p + i + 1) * 2 := by
      rw [← Nat.pow_succ]
      congr 1
      omega
    rw [e1] at h1
    rw [e2] at h2
    rw [e3]
    omega
def rsB : Bool := (List.range 41).all fun n => ((List.range (41 - n)).all fun p => Nat.blt (binN (p + n) n) (2 ^ 39)) && (List.range (82 - 2 * n)).all fun q => Nat.blt (binN (q + n) n) (2 ^ 62)
theorem rsB_ok : rsB = true := by decide +kernel
theorem rs_lt {p n : Nat} (h : p + n ≤ 40) : rs p n < 2 ^ 39 := by
  have z := List.all_eq_true.mp rsB_ok n (List.mem_range.mpr (by omega))
  rw [Bool.and_eq_true] at z
  have := List.all_eq_true.mp z.1 p (List.mem_range.mpr (by omega))
  have : binN (p + n) n < 2 ^ 39 := Nat.le_of_ble_eq_true this
  rw [rs_bin]
  have e : ((2 ^ 39 : Nat) : Int) = 2 ^ 39 := by decide
  omega
theorem rs_lt2 {p r n : Nat} (h : p + n ≤ 40) (h' : r + n ≤ 40) : rs (p + r + 1) n < 2 ^ 62 := by
  have z := List.all_eq_true.mp rsB_ok n (List.mem_range.mpr (by omega))
  rw [Bool.and_eq_true] at z
  have := List.all_eq_true.mp z.2 (p + r + 1) (List.mem_range.mpr (by omega))
  have : binN (p + r + 1 + n) n < 2 ^ 62 := Nat.le_of_ble_eq_true this
  rw [rs_bin]
  have e : ((2 ^ 62 : Nat) : Int) = 2 ^ 62 := by decide
  omega
theorem sum_up {f : Nat → Int} (h : ∀ k, 0 < f k) : ∀ m i, sumK f i ≤ sumK f (i + m)
  | 0, i => Int.le_refl _
  | m + 1, i => by
    have := sum_up h m i
    rw [show i + (m + 1) = (i + m) + 1 by omega, sumK_succ]
    have := h (i + m)
    omega
theorem topN_lt {p r n i : Nat} (h : p + n ≤ 40) (h' : r + n ≤ 40) (hi : i ≤ n) : topN p r n i < 2 ^ 62 := by
  have h0 : ∀ k, 0 ≤ sumK (topN p r n) k := fun k => by
    have := sum_up (f := topN p r n) (topN_pos p r n) k 0
    rw [Nat.zero_add] at this
    exact this
  have h1 := sum_up (topN_pos p r n) (n - i) (i + 1)
  rw [show i + 1 + (n - i) = n + 1 by omega, topN_sum, sumK_succ] at h1
  have h2 := rs_lt2 h h'
  have := h0 i
  omega
theorem sumT_lt {p r n i : Nat} (h : p + n ≤ 40) (h' : r + n ≤ 40) (hi : i ≤ n) : 0 < sumK (topN p r n) (i + 1) ∧ sumK (topN p r n) (i + 1) < 2 ^ 62 := by
  have h0 : ∀ k, 0 ≤ sumK (topN p r n) k := fun k => by
    have := sum_up (f := topN p r n) (topN_pos p r n) k 0
    rw [Nat.zero_add] at this
    exact this
  have h1 := sum_up (topN_pos p r n) (n - i) (i + 1)
  rw [show i + 1 + (n - i) = n + 1 by omega, topN_sum] at h1
  have h2 := rs_lt2 h h'
  have h3 := h0 i
  have h4 := topN_pos p r n i
  rw [sumK_succ] at h1 ⊢
  omega
end TC
namespace TC
set_option exponentiation.threshold 20000
open PySem PySem.Spec PyProof.Rows L2 TCA TCX
/-! ### K12NB: numbers_at_top -/
theorem divInt_self2 {a : Int} (h : a ≠ 0) : Rat.divInt a a = 1 := by
  have := Rat.divInt_eq_divInt_iff h (show (1 : Int) ≠ 0 by decide) |>.mpr (show a * 1 = 1 * a by omega)
  rw [this]
  decide +kernel
/-- the i-th square at the top -/
def topQ (p r n i : Nat) : Rat := Rat.divInt (topN p r n i) (rs p n)
theorem topQ_frac (p r n i : Nat) : topQ p r n i = (((topN p r n i).toNat : Nat) : Rat) / (((rs p n).toNat : Nat) : Rat) := by
  have h1 := topN_pos p r n i
  have h2 := rs_pos p n
  unfold topQ
  rw [Rat.divInt_eq_div, ← Rat.intCast_natCast, ← Rat.intCast_natCast, Int.toNat_of_nonneg (by omega), Int.toNat_of_nonneg (by omega)]
theorem topQ_pos (p r n i : Nat) : 0 < topQ p r n i := by
  have h1 := topN_pos p r n i
  have h2 := rs_pos p n
  rw [topQ_frac]
  exact quot_pos (by omega) (by omega)
theorem sgK_one (i : Nat) : sgK i = 1 ∨ sgK i = -1 := by
  unfold sgK
  split
  · exact .inr rfl
  · exact .inl rfl
structure TopP (p r n i : Nat) (L : List Part) : Prop where
  s : SuB L ((sgK i : Int) : Rat) (topQ p r n i) 1 62
  a : AllR L
theorem topP_of {p r n i : Nat} (h : p + n ≤ 40) (h' : r + n ≤ 40) (hi : i ≤ n) {L : List Part} (S : Su L ((sgK i : Int) : Rat) (topQ p r n i)) (a : AllR L) : TopP p r n i L := by
  have h1 := topN_pos p r n i
  have h2 := rs_pos p n
  have h3 := topN_lt h h' hi
  have h4 := rs_lt h
  have e1 : ((2 ^ 62 : Nat) : Int) = 2 ^ 62 := by decide
  have e2 : ((2 ^ 39 : Nat) : Int) = 2 ^ 39 := by decide
  have e3 : (2 : Nat) ^ 39 < 2 ^ 62 := by decide
  refine ⟨⟨S, sgK i, 1, _, _, ?_, topQ_frac p r n i, by decide, by omega, by omega, ?_, by decide, by omega, by omega⟩, a⟩
  · exact (Rat.num_divInt_den ((sgK i : Int) : Rat)).symm
  · rcases sgK_one i with e | e <;> rw [e] <;> decide
def sumQT (p r n i : Nat) : Rat := Rat.divInt (sumK (topN p r n) (i + 1)) (rs p n)
theorem sumP_of {p r n i : Nat} (h : p + n ≤ 40) (h' : r + n ≤ 40) (hi : i ≤ n) {L : List Part} (S : Su L (sumQT p r n i) 1) : SuB L (sumQT p r n i) 1 62 1 := by
  have h2 := rs_pos p n
  obtain ⟨h1, h3⟩ := sumT_lt h h' hi
  have h4 := rs_lt h
  have e1 : ((2 ^ 62 : Nat) : Int) = 2 ^ 62 := by decide
  have e2 : ((2 ^ 39 : Nat) : Int) = 2 ^ 39 := by decide
  have e3 : (2 : Nat) ^ 39 < 2 ^ 62 := by decide
  refine ⟨S, sumK (topN p r n) (i + 1), (rs p n).toNat, 1, 1, ?_, by decide +kernel, by omega, by decide, by decide, ?_, ?_, by decide, by decide⟩
  · unfold sumQT
    rw [Int.toNat_of_nonneg (by omega)]
  · omega
  · omega
theorem sumQ_zeroT (p r n : Nat) : sumQT p r n 0 = 1 := by
  have h2 := rs_pos p n
  unfold sumQT
  rw [sumK_succ]
  show Rat.divInt (0 + rs p (n - 0) * rs r 0) (rs p n) = 1
  rw [rs_zero, Nat.sub_zero, Int.mul_one, Int.zero_add, divInt_self2 (by omega)]
theorem topQ_zero (p r n : Nat) : topQ p r n 0 = 1 := by
  have h2 := rs_pos p n
  unfold topQ
  show Rat.divInt (rs p (n - 0) * rs r 0) (rs p n) = 1
  rw [rs_zero, Nat.sub_zero, Int.mul_one, divInt_self2 (by omega)]
theorem sumQ_succT (p r n i : Nat) : sumQT p r n i + topQ p r n (i + 1) = sumQT p r n (i + 1) := by
  have h2 := rs_pos p n
  unfold sumQT topQ
  rw [sumK_succ _ (i + 1), Rat.divInt_add_divInt _ _ (by omega) (by omega), Rat.divInt_eq_divInt_iff (Int.mul_ne_zero (by omega) (by omega)) (by omega)]
  grind
theorem sumQ_lastT (p r n : Nat) : sumQT p r n n = Rat.divInt (rs (p + r + 1) n) (rs p n) := by
  unfold sumQT
  rw [topN_sum]
/-- the square of the next, by both roots -/
theorem topQ_next {p r n i : Nat} (h : i < n) : topQ p r n i * (((2 * (n : Int) - 2 * i) * (2 * r + 2 + 2 * i) : Int) : Rat) / (((2 * (i : Int) + 2) * (2 * p + 2 * n - 2 * i) : Int) : Rat) = topQ p r n (i + 1) := by
  have z := topQ_step (p := p) (r := r) h (q := topQ p r n i) rfl
  rw [show topQ p r n (i + 1) = Rat.divInt (topN p r n (i + 1)) (rs p n) from rfl, ← z, Rat.divInt_eq_div]
  have e1 : (2 * (n : Int) - 2 * i) * (2 * r + 2 + 2 * i) = 4 * (((n : Int) - i) * (r + i + 1)) := by grind
  have e2 : (2 * (i : Int) + 2) * (2 * p + 2 * n - 2 * i) = 4 * (((p : Int) + n - i) * (i + 1)) := by grind
  have b0 : ((((p : Int) + n - i) * (i + 1) : Int) : Rat) ≠ 0 := ne_of_pos (int_pos (Int.mul_pos (by omega) (by omega)))
  rw [e1, e2, Rat.intCast_mul 4, Rat.intCast_mul 4, Rat.div_def, Rat.div_def]
  have f0 : ((4 : Int) : Rat) ≠ 0 := by decide +kernel
  generalize ((((n : Int) - i) * (r + i + 1) : Int) : Rat) = x
  generalize ((((p : Int) + n - i) * (i + 1) : Int) : Rat) = y at *
  generalize ((4 : Int) : Rat) = k at *
  generalize topQ p r n i = q
  grind
theorem sgK_next (i : Nat) : ((sgK i : Int) : Rat) * Rat.divInt (-1) 1 = ((sgK (i + 1) : Int) : Rat) := by
  have e : sgK (i + 1) = - sgK i := by
    unfold sgK
    split <;> split <;> omega
  have e1 : Rat.divInt (-1) 1 = -1 := by decide +kernel
  rw [e, e1, Rat.intCast_neg]
  grind
theorem sgK_sq (i : Nat) : ((sgK i : Int) : Rat) * ((sgK i : Int) : Rat) = 1 := by
  rcases sgK_one i with e | e <;> rw [e] <;> decide +kernel
theorem num_divInt {a b : Int} (hb : b ≠ 0) : (Rat.divInt a b).num.natAbs ∣ a.natAbs := by
  generalize hq : Rat.divInt a b = q
  have e : Rat.divInt a b = Rat.divInt q.num (q.den : Int) := by rw [hq, Rat.num_divInt_den]
  have d0 : ((q.den : Nat) : Int) ≠ 0 := by have := q.den_pos; omega
  rw [Rat.divInt_eq_divInt_iff hb d0] at e
  have c : Nat.Coprime q.num.natAbs q.den := q.reduced
  refine c.dvd_of_dvd_mul_right ⟨b.natAbs, ?_⟩
  have := congrArg Int.natAbs e
  rwa [Int.natAbs_mul, Int.natAbs_mul, Int.natAbs_natCast] at this
section
variable {P : Program} {w : World} {K : PySem.W.Frag} {mg : Str → Option Value} {base : Heap} {f : Addr} {fd : FuncData} {C fI fQ : Addr}
/-! ### the def -/
def topKs (p n m : Nat) : List Int := (List.range m).map fun (i : Nat) => (p : Int) + n - 2 * i
def TopPr (p r n : Nat) (u : Int) (L : List Part) : Prop := ∃ i : Nat, i ≤ n ∧ u = (p : Int) + n - 2 * i ∧ TopP p r n i L
def spTopN (C : Addr) : Sp := fun vs H Q _ => ∃ p r n : Nat, vs = [.int ((p : Int) + n), .int ((r : Int) + n), .int ((p : Int) + r)] ∧ p + n ≤ 40 ∧ r + n ≤ 40 ∧ p + r ≤ 40 ∧ ∀ d ad H', Same H H' → H d = none → NumD C (LvP ((p : Int) + n) ((r : Int) + n) ((p : Int) + r) ((p : Int) + r)) H' d (topKs p n (n + 1)) ad → Q (.ref d) H'
abbrev nTopN : List Str := ["a", "b", "c", "number", "numbers", "squares", "u", "v", "ahead", "factor"]
theorem scTopN : FnScope nTopN ["a", "b", "c"] (defScope sTopN) := ⟨rfl, rfl, rfl, by decide +kernel, rfl, by decide +kernel, by decide +kernel⟩
theorem ok_topN {fE fT fO fP fR : Addr} {fdE fdT fdO fdP fdR : FuncData} (F : FnP K "numbers_at_top" sTopN f fd) (FE : FnE K fE fdE) (GE : FnOk P w K mg base CX0 4 fE fdE psE (spExact C)) (gE : mg "exact" = some (.ref fE))
    (GT : FnOk P w K mg base CX0 4 fT fdT ["one", "other"] (spTimesA C)) (bT : L2.Binds K fdT ["one", "other"] []) (kT : PySem.W.keepIn K (.ref fT) = true) (gT : mg "times" = some (.ref fT))
    (GO : FnOk P w K mg base CX0 4 fO fdO ["one", "other"] (spOver C)) (bO : L2.Binds K fdO ["one", "other"] []) (kO : PySem.W.keepIn K (.ref fO) = true) (gO : mg "over" = some (.ref fO))
    (GP : FnOk P w K mg base CX0 4 fP fdP ["one", "other"] (spPlusA C)) (bP : L2.Binds K fdP ["one", "other"] []) (kP : PySem.W.keepIn K (.ref fP) = true) (gP : mg "plus" = some (.ref fP))
    (GR : FnOk P w K mg base CX0 4 fR fdR ["one"] (spRootQ C)) (bR : L2.Binds K fdR ["one"] []) (kR : PySem.W.keepIn K (.ref fR) = true) (gR : mg "root_of" = some (.ref fR))
    (grange : mg "range" = none) (gmax : mg "max" = none) :
    FnOk P w K mg base CX0 5 f fd ["a", "b", "c"] (spTopN C) := by
  obtain ⟨dsE, vE, bE⟩ := bE0 FE
  obtain ⟨mvR, kbR⟩ := bEr FE
  refine F.ok scTopN (fun vs H Q E h => ?_) (fun cdv Ar outer s H vs Q E' hr h => ?_)
  · obtain ⟨_, _, _, rfl, _⟩ := h
    rfl
  obtain ⟨p, r, n, rfl, a40, b40, c40, q⟩ := h
  have hu := hu_of hr
  have hr2 := hr.mono (j := 2) (by decide)
  have hr4 := hr
  refine ⟨_, PSs.nox (C8.pss_cut (ps_set (i := 3) scTopN.nd rfl (.inl rfl) (pe_call GE hr4 (by rfl) gE FE.kp bE vE pass0 (pa_cons pe_int pa_nil)))
      (C8.pss_cut (ps_par (i := 4) (j := 5) (by rfl) scTopN.nd rfl rfl (by decide) rfl rfl (pa_cons (pe_disp (pps_cons (pv 0) (pv 3) pps_nil) (by rfl) (by rfl) (fun z => by cases z) (by decide)) (pa_cons (pv 3) pa_nil)) (by rfl))
      (C8.pss_cut (ps_for PassesOwn.never rfl (pi_range3 (by rfl) grange (pa_cons (pv 0) (pa_cons (pe_callB (call_max2 rfl) (by rfl) gmax (by decide +kernel) (pa_cons (pe_un un_neg (pv 0)) (pa_cons (pe_op op_sub (pv 2) (pv 1)) pa_nil))) (pa_cons (pe_un un_neg pe_int) pa_nil)))) (pg_name (i := 6) scTopN.nd rfl (.inl rfl))
        (C8.pss_cut (ps_set (i := 7) scTopN.nd rfl (.inl rfl) (pe_op op_sub (pe_op op_add (pv 2) pe_int) (pv 6)))
      (C8.pss_cut (ps_set (i := 8) scTopN.nd rfl (.inl rfl) (pe_call GT hr4 (by rfl) gT kT bT .nil pass0 (pa_cons (pv 3) (pa_cons (pe_callN GE hr4 (by rfl) gE FE.kp kbR pass0 (pa_cons (pe_un un_neg pe_int) pa_nil) (pk_cons (pe_op op_mul (pe_op op_add (pe_op op_sub (pv 1) (pv 7)) pe_int) (pe_op op_add (pv 1) (pv 7))) pk_nil)) pa_nil))))
      (C8.pss_cut (ps_set (i := 3) scTopN.nd rfl (.inl rfl) (pe_call (GO.imp overR') hr4 (by rfl) gO kO bO .nil pass0 (pa_cons (pv 8) (pa_cons (pe_callN GE hr4 (by rfl) gE FE.kp kbR pass0 (pa_cons pe_int pa_nil) (pk_cons (pe_op op_mul (pe_op op_add (pe_op op_sub (pv 0) (pv 6)) pe_int) (pe_op op_add (pv 0) (pv 6))) pk_nil)) pa_nil))))
      (C8.pss_cut (ps_dput hu (pv 4) (pe_op op_sub (pv 6) pe_int) (pv 3) rfl)
      (pss_one (ps_set (i := 5) scTopN.nd rfl (.inl rfl) (pe_call GP hr4 (by rfl) gP kP bP .nil pass0 (pa_cons (pv 5) (pa_cons (pe_call GT hr4 (by rfl) gT kT bT .nil pass0 (pa_cons (pv 3) (pa_cons (pv 3) pa_nil))) pa_nil))))))))))
      (C8.pss_cut (ps_set (i := 9) scTopN.nd rfl (.inr rfl) (pe_call GR hr4 (by rfl) gR kR bR .nil pass0 (pa_cons (pe_call (GO.imp overQ') hr4 (by rfl) gO kO bO .nil pass0 (pa_cons (pe_call GE hr4 (by rfl) gE FE.kp bE vE pass0 (pa_cons pe_int pa_nil)) (pa_cons (pv 5) pa_nil))) pa_nil)))
      (pss_one (ps_ret (pe_lock (pe_dc (own := [("u", 6), ("number", 3)]) (g := gTup K 2 (gCons (gName 6) (gCons (gName 3) gNil))) (tt := tYes) (tk := tVar 6) (tv := tCall (spTimesA C) [] E0 (tCons (tVar 3) (tCons (tVar 9) tNil))) rfl scTopN.nd (pi_items (pv 4))
          (blkOk_by (N := nTopN) (sc := defScope sTopN) (by decide +kernel)) (fun _ _ _ _ _ => pg_tup rfl (pgs_cons (pg_name (i := 6) scTopN.nd rfl (.inl rfl)) (pgs_cons (pg_name (i := 3) scTopN.nd rfl (.inl rfl)) pgs_nil))) (fun _ _ _ _ _ => pts_nil) (fun _ _ _ _ _ => pv 6)
          (fun _ _ _ _ _ => pe_call GT hr4 (by rfl) gT kT bT .nil pass0 (pa_cons (pv 3) (pa_cons (pv 9) pa_nil))))))))))), ?_⟩
  have ex1 : exL 1 1 1 = [((1 : Int), (1 : Rat))] := by decide +kernel
  have su1 : Su [((1 : Int), (1 : Rat))] 1 1 := by
    have := su_int (t := 1) (b := 1) (by decide)
    rw [ex1] at this
    exact this.of (by decide +kernel) rfl
  have eN : ((p + n : Nat) : Int) = (p : Int) + n := by omega
  refine ⟨fun σ H1 => ∃ x : Addr, σ = [some (.int ((p : Int) + n)), some (.int ((r : Int) + n)), some (.int ((p : Int) + r)), some (.ref x), none, none, none, none, none, none] ∧ Same H H1 ∧ NumAt C H1 x [((1 : Int), (1 : Rat))], ⟨1, 1, 1, 40, rfl, by decide, by decide, by decide, by decide, root_ok1, fun x H2 s2 hx hN => ⟨x, rfl, s2, ex1 ▸ hN⟩⟩, fun σ H1 h1 => ?_⟩
  obtain ⟨x0, rfl, s0, hN0⟩ := h1
  let PP : Int → List Part → Prop := TopPr p r n
  refine ⟨fun σ H2 => ∃ (d : Addr), σ = [some (.int ((p : Int) + n)), some (.int ((r : Int) + n)), some (.int ((p : Int) + r)), some (.ref x0), some (.ref d), some (.ref x0), none, none, none, none] ∧ Same H H2 ∧ H d = none ∧ NumAt C H2 x0 [((1 : Int), (1 : Rat))] ∧ NumD C PP H2 d (topKs p n 1) (fun _ => x0), ?_, fun σ H2 h2 => ?_⟩
  · intro dA hA
    have sA := same_upd (o := .dK []) hA
    refine ⟨_, rfl, _, rfl, upd_same, [(Sum.inl ((p : Int) + n), .ref x0)], rfl, by show 1 ≤ 15; decide, ?_⟩
    rw [upd_upd]
    have sB : Same H1 (upd H1 dA (.dK (mergeK [] [((Sum.inl ((p : Int) + n) : Key), V.ref x0)]))) := same_upd hA
    have z : NumD C PP (upd H1 dA (.dK (mergeK [] [((Sum.inl ((p : Int) + n) : Key), V.ref x0)]))) dA (topKs p n 1) (fun _ => x0) := by
      refine ⟨by rw [upd_same]; show some (HO.dK [((Sum.inl ((p : Int) + n) : Key), V.ref x0)]) = some (.dK [((Sum.inl ((p : Int) + n - 2 * ((0 : Nat) : Int)) : Key), V.ref x0)]); rw [show (p : Int) + n - 2 * ((0 : Nat) : Int) = (p : Int) + n by omega], fun k hk => ⟨_, hN0.same sB, 0, by omega, ?_, ?_⟩⟩
      · exact List.mem_singleton.mp hk
      · exact topP_of a40 b40 (by omega) (su1.of (by decide +kernel) (topQ_zero p r n).symm) (AllR.one 1)
    exact ⟨_, rfl, _, _, rfl, dA, rfl, s0.trans sB, s0.free hA, hN0.same sB, z⟩
  obtain ⟨d, rfl, s2, hd, hN2, hD2⟩ := h2
  clear hN0 s0
  -- the loop
  refine ⟨fun σ H3 => ∃ (d xn sq : Addr) (ad : Int → Addr) (M : List Part) (v6 v7 v8 : Option V), σ = [some (.int ((p : Int) + n)), some (.int ((r : Int) + n)), some (.int ((p : Int) + r)), some (.ref xn), some (.ref d), some (.ref sq), v6, v7, v8, none] ∧ Same H H3 ∧ H d = none ∧ NumD C PP H3 d (topKs p n (n + 1)) ad ∧ NumAt C H3 sq M ∧ Su M (sumQT p r n n) 1, ?_, fun σ H3 h3 => ?_⟩
  · refine ⟨_, rfl, _, rfl, _, rfl, _, rfl, _, rfl, _, _, rfl, rfl, _, _, rfl, _, rfl, ?_⟩
    have em : (if ((p : Int) + r) - ((r : Int) + n) > -((p : Int) + n) then ((p : Int) + r) - ((r : Int) + n) else -((p : Int) + n)) = (p : Int) - n := by split <;> omega
    rw [em]
    refine ⟨_, _, -2, n, rfl, ⟨by decide, by decide, smallD2 (n := n) (by omega) (by omega) (by omega) (by omega) (by omega), sizeD2 (by omega)⟩, ?_⟩
    refine for_rangeC (lo := (p : Int) + n) (c := -2) (n := n) (fun i σ H3 => ∃ (xn sq : Addr) (ad : Int → Addr) (L M : List Part) (v6 v7 v8 : Option V), σ = [some (.int ((p : Int) + n)), some (.int ((r : Int) + n)), some (.int ((p : Int) + r)), some (.ref xn), some (.ref d), some (.ref sq), v6, v7, v8, none] ∧ Same H H3 ∧ NumD C PP H3 d (topKs p n (i + 1)) ad ∧ NumAt C H3 xn L ∧ TopP p r n i L ∧ NumAt C H3 sq M ∧ Su M (sumQT p r n i) 1)
      ⟨x0, x0, _, _, _, none, none, none, rfl, s2, hD2, hN2, topP_of a40 b40 (by omega) (su1.of (by decide +kernel) (topQ_zero p r n).symm) (AllR.one 1), hN2, su1.of (sumQ_zeroT p r n).symm rfl⟩ (fun i σ H3 hi hP => ?_) (fun σ H3 hP => ?_)
    rotate_left
    · obtain ⟨xn, sq, ad, L, M, v6, v7, v8, rfl, s3, hD3, _, _, hM, sM⟩ := hP
      exact ⟨d, xn, sq, ad, M, v6, v7, v8, rfl, s3, hd, hD3, hM, sM⟩
    obtain ⟨xn, sq, ad, L, M, v6, v7, v8, rfl, s3, hD3, hL, tL, hM, sM⟩ := hP
    have eu : (p : Int) + n + (i : Nat) * -2 = (p : Int) + n - 2 * i := by omega
    rw [eu]
    have rt1 := rtL_even (x := 2 * (n : Int) - 2 * i) (y := 2 * r + 2 + 2 * i) (by omega) (by omega) (by omega) (by omega) (by omega)
    have rt2 := rtL_even (x := 2 * (i : Int) + 2) (y := 2 * p + 2 * n - 2 * i) (by omega) (by omega) (by omega) (by omega) (by omega)
    have er1 : ((r : Int) + n - ((p : Int) + r + 2 - ((p : Int) + n - 2 * i)) + 2) * ((r : Int) + n + ((p : Int) + r + 2 - ((p : Int) + n - 2 * i))) = (2 * (n : Int) - 2 * i) * (2 * r + 2 + 2 * i) := by congr 1 <;> omega
    have er2 : ((p : Int) + n - ((p : Int) + n - 2 * i) + 2) * ((p : Int) + n + ((p : Int) + n - 2 * i)) = (2 * (i : Int) + 2) * (2 * p + 2 * n - 2 * i) := by congr 1 <;> omega
    -- v
    refine ⟨fun σ H4 => σ = [some (.int ((p : Int) + n)), some (.int ((r : Int) + n)), some (.int ((p : Int) + r)), some (.ref xn), some (.ref d), some (.ref sq), some (.int ((p : Int) + n - 2 * i)), some (.int ((p : Int) + r + 2 - ((p : Int) + n - 2 * i))), v8, none] ∧ H4 = H3, ⟨_, rfl, _, _, rfl, rfl, _, rfl, _, _, rfl, rfl, rfl, rfl⟩, fun σ H4 h4 => ?_⟩
    obtain ⟨rfl, rfl⟩ := h4
    -- ahead
    refine ⟨fun σ H5 => ∃ (xa : Addr) (La : List Part), σ = [some (.int ((p : Int) + n)), some (.int ((r : Int) + n)), some (.int ((p : Int) + r)), some (.ref xn), some (.ref d), some (.ref sq), some (.int ((p : Int) + n - 2 * i)), some (.int ((p : Int) + r + 2 - ((p : Int) + n - 2 * i))), some (.ref xa), none] ∧ Same H4 H5 ∧ NumAt C H5 xa La ∧ SuB La (((sgK (i + 1) : Int)) : Rat) (topQ p r n i * (((2 * (n : Int) - 2 * i) * (2 * r + 2 + 2 * i) : Int) : Rat)) 2 86 ∧ AllR La, ?_, fun σ H5 h5 => ?_⟩
    · refine ⟨_, rfl, _, rfl, _, rfl, _, rfl, _, _, rfl, rfl, _, _, rfl, rfl, _, rfl, _, rfl, _, _, rfl, rfl, _, _, rfl, rfl, cmul_r (by omega) (by omega), rfl, rfl, -1, 1, _, 40, rfl, by decide, by decide, by decide, by decide, er1 ▸ rt1.ok, fun y H5 s5 hy hN => ?_⟩
      rw [er1] at hN
      refine ⟨xn, y, L, _, _, _, _, _, 1, 62, 1, 24, rfl, hL.same s5, hN, tL.s, rt1.sub (t := -1) (b := 1) (by decide) (by decide) (by decide), by decide, by decide, fun z Kz H6 s6 hz hK sK aK => ?_⟩
      refine ⟨z, Kz, rfl, s5.trans s6, hK, ?_, aK tL.a rt1.allR⟩
      have := sK
      rw [show Rat.divInt (-1) ((1 : Nat) : Int) = Rat.divInt (-1) 1 from rfl, sgK_next] at this
      exact this
    obtain ⟨xa, La, rfl, s5, hLa, sLa, aLa⟩ := h5
    -- number
    refine ⟨fun σ H6 => ∃ (xm : Addr) (Lm : List Part), σ = [some (.int ((p : Int) + n)), some (.int ((r : Int) + n)), some (.int ((p : Int) + r)), some (.ref xm), some (.ref d), some (.ref sq), some (.int ((p : Int) + n - 2 * i)), some (.int ((p : Int) + r + 2 - ((p : Int) + n - 2 * i))), some (.ref xa), none] ∧ Same H5 H6 ∧ NumAt C H6 xm Lm ∧ TopP p r n (i + 1) Lm, ?_, fun σ H6 h6 => ?_⟩
    · refine ⟨_, rfl, _, rfl, _, rfl, _, _, rfl, rfl, _, _, rfl, rfl, _, rfl, _, rfl, _, _, rfl, rfl, _, _, rfl, rfl, cmul_r (by omega) (by omega), rfl, rfl, 1, 1, _, 40, rfl, by decide, by decide, by decide, by decide, er2 ▸ rt2.ok, fun y H6 s6 hy hN => ?_⟩
      rw [er2] at hN
      refine ⟨xa, y, La, _, _, _, 2, 86, rfl, hLa.same s6, hN, rt2, sLa, aLa, by decide, fun z Kz H7 s7 hz hK sK aK => ?_⟩
      refine ⟨z, Kz, rfl, s6.trans s7, hK, topP_of a40 b40 (by omega) (sK.of rfl (topQ_next hi)) aK⟩
    obtain ⟨xm, Lm, rfl, s6, hLm, tLm⟩ := h6
    have s46 := s5.trans s6
    have hD6 := hD3.same s46
    have hM6 := hM.same s46
    have s36 := s3.trans s46
    -- into the dict
    have nk : (p : Int) + n - 2 * i - 2 ∉ topKs p n (i + 1) := fun m => by
      obtain ⟨j, hj, e⟩ := List.mem_map.mp m
      have := List.mem_range.mp hj
      omega
    refine ⟨fun σ H7 => ∃ ad', σ = [some (.int ((p : Int) + n)), some (.int ((r : Int) + n)), some (.int ((p : Int) + r)), some (.ref xm), some (.ref d), some (.ref sq), some (.int ((p : Int) + n - 2 * i)), some (.int ((p : Int) + r + 2 - ((p : Int) + n - 2 * i))), some (.ref xa), none] ∧ Same H H7 ∧ NumAt C H7 xm Lm ∧ NumAt C H7 sq M ∧ NumD C PP H7 d (topKs p n (i + 2)) ad', ?_, fun σ H7 h7 => ?_⟩
    · refine ⟨_, rfl, _, rfl, _, rfl, _, _, rfl, rfl, d, _, rfl, .inl ⟨_, Sum.inl ((p : Int) + n - 2 * i - 2), hD6.at_, rfl, ?_, rfl⟩, ?_⟩
      · rw [List.length_map]
        unfold topKs
        rw [List.length_map, List.length_range]
        exact Nat.lt_of_le_of_lt (m := 41) (by omega) (by decide)
      have hD7 := hD6.put nk hLm ⟨i + 1, by omega, by omega, tLm⟩
      have ek : topKs p n (i + 1) ++ [(p : Int) + n - 2 * i - 2] = topKs p n (i + 2) := by
        unfold topKs
        rw [List.range_succ (n := i + 1), List.map_append]
        congr 1
        show _ = [(p : Int) + n - 2 * ((i + 1 : Nat) : Int)]
        congr 1
        omega
      rw [ek] at hD7
      exact ⟨_, rfl, same_at s36 hd, hLm.updD hD6.at_, hM6.updD hD6.at_, hD7⟩
    obtain ⟨ad', rfl, s7, hLm7, hM7, hD7⟩ := h7
    have tS := tLm.s
    refine ⟨_, rfl, _, rfl, _, rfl, xm, xm, Lm, Lm, _, _, _, _, 1, 62, 1, 62, rfl, hLm7, hLm7, tS, tS, by decide, by decide, fun z Kz H8 s8 hz hK sK aK => ?_⟩
    have e1 : Su Kz (topQ p r n (i + 1)) 1 := by
      have h1 := sK.1.of (sgK_sq (i + 1)) (show topQ p r n (i + 1) * topQ p r n (i + 1) = 1 * (topQ p r n (i + 1) * topQ p r n (i + 1)) by rw [Rat.one_mul])
      exact (h1.scale (by decide) (topQ_pos p r n (i + 1))).of (Rat.one_mul _) rfl
    have sq1 : SuB Kz (topQ p r n (i + 1)) 1 62 1 := by
      have b1 := topN_pos p r n (i + 1)
      have b2 := rs_pos p n
      have b3 := topN_lt a40 b40 (show i + 1 ≤ n by omega)
      have b4 := rs_lt a40
      have e1' : ((2 ^ 62 : Nat) : Int) = 2 ^ 62 := by decide
      have e2' : ((2 ^ 39 : Nat) : Int) = 2 ^ 39 := by decide
      have e3' : (2 : Nat) ^ 39 < 2 ^ 62 := by decide
      refine ⟨e1, topN p r n (i + 1), (rs p n).toNat, 1, 1, ?_, by decide +kernel, by omega, by decide, by decide, by omega, by omega, by decide, by decide⟩
      unfold topQ
      rw [Int.toNat_of_nonneg (by omega)]
    refine ⟨sq, z, M, Kz, _, _, 1, 62, 1, 62, 1, rfl, hM7.same s8, hK, sumP_of a40 b40 (by omega) sM, sq1, by decide, by decide, fun y Ky H9 s9 hy hKy sKy => ?_⟩
    have s89 := s8.trans s9
    exact ⟨xm, y, ad', Lm, Ky, _, _, _, rfl, s7.trans s89, hD7.same s89, hLm7.same s89, tLm, hKy, sKy.1.of (sumQ_succT p r n i) rfl⟩
  obtain ⟨d, xn, sq, ad, M, v6, v7, v8, rfl, s3, hd3, hD3, hM, sM⟩ := h3
  clear hD2 hN2 s2
  have P1 := rs_pos p n
  have P2 := rs_pos (p + r + 1) n
  have l1 := rs_lt a40
  have l2 := rs_lt2 a40 b40
  -- the factor
  have inv : (1 : Rat) / sumQT p r n n = Rat.divInt (rs p n) (rs (p + r + 1) n) := by
    rw [sumQ_lastT, Rat.divInt_eq_div, Rat.divInt_eq_div]
    have z1 := ne_of_pos (int_pos P1)
    have z2 := ne_of_pos (int_pos P2)
    generalize ((rs p n : Int) : Rat) = x at *
    generalize ((rs (p + r + 1) n : Int) : Rat) = y at *
    grind
  refine ⟨fun σ H4 => ∃ (xf : Addr) (Lf : List Part), σ = [some (.int ((p : Int) + n)), some (.int ((r : Int) + n)), some (.int ((p : Int) + r)), some (.ref xn), some (.ref d), some (.ref sq), v6, v7, v8, some (.ref xf)] ∧ Same H3 H4 ∧ NumAt C H4 xf Lf ∧ Su Lf 1 (Rat.divInt (rs p n) (rs (p + r + 1) n)), ?_, fun σ H4 h4 => ?_⟩
  · refine ⟨1, 1, 1, 40, rfl, by decide, by decide, by decide, by decide, root_ok1, fun x1 H4 s4 hx1 hN1 => ?_⟩
    rw [ex1] at hN1
    have sq0 : 0 < sumQT p r n n := by
      rw [sumQ_lastT, Rat.divInt_eq_div, Rat.div_def]
      exact Rat.mul_pos (int_pos P2) (Rat.inv_pos.mpr (int_pos P1))
    have nd : (sumQT p r n n).num.natAbs < 2 ^ 62 ∧ (sumQT p r n n).den < 2 ^ 39 := by
      rw [sumQ_lastT]
      have e1' : ((2 ^ 62 : Nat) : Int) = 2 ^ 62 := by decide
      have e2' : ((2 ^ 39 : Nat) : Int) = 2 ^ 39 := by decide
      refine ⟨Nat.lt_of_le_of_lt (Nat.le_of_dvd (by omega) (num_divInt (by omega))) (show (rs (p + r + 1) n).natAbs < 2 ^ 62 by omega), ?_⟩
      have eb : rs p n = (((rs p n).toNat : Nat) : Int) := by omega
      rw [eb]
      exact Nat.lt_of_le_of_lt (Nat.le_of_dvd (by omega) (den_divInt (by omega))) (by omega)
    refine ⟨_, rfl, x1, sq, _, M, 1, _, 62, 39, rfl, hN1, hM.same s4, ⟨su1, 1, 1, 1, 1, by decide +kernel, by decide +kernel, by decide, by decide, by decide, by decide, by decide, by decide, by decide⟩, AllR.one 1, sM, sq0, nd.1, nd.2, by decide, by decide, by decide, fun y Ky H5 s5 hy hKy sKy aKy => ?_⟩
    rw [inv] at sKy
    have fp : 0 < Rat.divInt (rs p n) (rs (p + r + 1) n) := by
      rw [Rat.divInt_eq_div, Rat.div_def]
      exact Rat.mul_pos (int_pos P1) (Rat.inv_pos.mpr (int_pos P2))
    have eK := sKy.frac (ne_of_pos fp)
    rw [eK] at hKy
    have d1 : ((Rat.divInt (rs p n) (rs (p + r + 1) n)).num.natAbs) ∣ (rs p n).natAbs := num_divInt (by omega)
    have eb : rs (p + r + 1) n = (((rs (p + r + 1) n).toNat : Nat) : Int) := by omega
    have d2 : (Rat.divInt (rs p n) (rs (p + r + 1) n)).den ∣ (rs (p + r + 1) n).toNat := by
      rw [eb]
      exact den_divInt (by omega)
    obtain ⟨nn, n0, en⟩ := num_nat fp
    have dp := (Rat.divInt (rs p n) (rs (p + r + 1) n)).den_pos
    rw [en, Int.natAbs_natCast] at d1
    have sm1 : Smooth (rs p n) := smooth_dvd (smooth_fact (p + n) (by omega)) P1 ⟨_, (rs_fact p n).symm⟩
    have sm2 : Smooth (rs (p + r + 1) n) := smooth_dvd (smooth_fact (p + r + 1 + n) (by omega)) P2 ⟨_, (rs_fact (p + r + 1) n).symm⟩
    have le1 := Nat.le_of_dvd (by omega) d1
    have le2 := Nat.le_of_dvd (by omega) d2
    have b1 : (2 : Int) ^ 39 < 2 ^ 190 := by decide
    have b2 : (2 : Int) ^ 62 < 2 ^ 190 := by decide
    refine ⟨y, _, rfl, hKy, fp, ?_, ?_, by rw [en]; omega, by omega, fun z Kz H6 s6 hz hKz sKz => ?_⟩
    · rw [en]
      refine smooth_dvd sm1 (by omega) ?_
      have z := Int.natCast_dvd_natCast.mpr d1
      rwa [Int.natAbs_of_nonneg (by omega)] at z
    · refine smooth_dvd sm2 (by omega) ?_
      have z := Int.natCast_dvd_natCast.mpr d2
      rwa [Int.toNat_of_nonneg (by omega)] at z
    · exact ⟨z, Kz, rfl, (s4.trans s5).trans s6, hKz, sKz⟩
  obtain ⟨xf, Lf, rfl, s4, hLf, sLf⟩ := h4
  -- the told dict
  have hD4 := hD3.same s4
  refine ⟨d, .dK _, hD4.at_, trivial, fun o => ?_⟩
  refine ⟨_, rfl, d, o, kvI (topKs p n (n + 1)) ad, rfl, upd_same, fun D hD => ?_⟩
  have nD : d ≠ D := ne_of_none (upd_same (H := H4) (a := d) (o := .frz o (.dK (kvI (topKs p n (n + 1)) ad)))) hD
  have lk : (topKs p n (n + 1)).length = n + 1 := by
    unfold topKs
    rw [List.length_map, List.length_range]
  have hV : ∀ k ∈ topKs p n (n + 1), ∃ L, NumAt C (upd H4 d (.frz o (.dK (kvI (topKs p n (n + 1)) ad)))) (ad k) L ∧ PP k L := fun k hk => by
    obtain ⟨L, z1, z2⟩ := hD4.v k hk
    exact ⟨L, z1.updD hD4.at_, z2⟩
  have hF := hLf.updD (o := .frz o (.dK (kvI (topKs p n (n + 1)) ad))) hD4.at_
  have kF : ∀ b o', H b = some o' → (upd H4 d (.frz o (.dK (kvI (topKs p n (n + 1)) ad)))) b = some o' := fun b o' e => by
    rw [upd_ne fun z => by rw [z, hd3] at e; cases e]
    exact s4 _ _ (s3 _ _ e)
  have frz0 : (upd H4 d (.frz o (.dK (kvI (topKs p n (n + 1)) ad)))) d = some (.frz o (.dK (kvI (topKs p n (n + 1)) ad))) := upd_same
  have hdn : H D = none := by
    cases e : H D with
    | none => rfl
    | some z => rw [kF _ _ e] at hD; cases hD
  generalize upd H4 d (.frz o (.dK (kvI (topKs p n (n + 1)) ad))) = G0 at hD hV hF kF frz0 ⊢
  refine dc_it (walk_items (d := d) (o := o) (kvs := kvI (topKs p n (n + 1)) ad)) (fun j G => Same G0 G ∧ ∃ ad2, NumD C (LvP ((p : Int) + n) ((r : Int) + n) ((p : Int) + r) ((p : Int) + r)) G D (topKs p n j) ad2) ⟨same_upd hD, ad, NumD.empty upd_same⟩ (fun j G _ hP => hP.1 _ _ frz0) (fun j x G G2 hj hP hy => ?_) (fun G hP => ?_)
  · obtain ⟨T3, x, y, rfl, hT3, rfl, hx, hy⟩ := hy
    obtain ⟨sG, ad2, hDG⟩ := hP
    rw [List.length_map, lk] at hj
    have ej : (topKs p n (n + 1))[j]? = some ((p : Int) + n - 2 * (j : Nat)) := by
      unfold topKs
      rw [List.getElem?_map, List.getElem?_range hj]
      rfl
    have ekv : (kvI (topKs p n (n + 1)) ad)[j]? = some ((Sum.inl ((p : Int) + n - 2 * (j : Nat)) : Key), V.ref (ad ((p : Int) + n - 2 * (j : Nat)))) := by
      show (List.map _ _)[j]? = _
      rw [List.getElem?_map, ej]
      rfl
    change ((kvI (topKs p n (n + 1)) ad)[j]?).map (fun kv => kV kv.1) = some x at hx
    change ((kvI (topKs p n (n + 1)) ad)[j]?).map Prod.snd = some y at hy
    rw [ekv] at hx hy
    have hx := (Option.some.inj hx).symm
    have hy := (Option.some.inj hy).symm
    subst hx hy
    have sm3 := same_upd (o := .tup [kV (Sum.inl ((p : Int) + n - 2 * (j : Nat))), .ref (ad ((p : Int) + n - 2 * (j : Nat)))]) hT3
    obtain ⟨L, hL, i, hi, ei, tL⟩ := hV _ (List.mem_of_getElem? ej)
    have eij : j = i := by omega
    subst eij
    refine ⟨T3, _, rfl, SqT.of upd_same, rfl, _, _, rfl, _, _, rfl, rfl, rfl, ?_⟩
    refine ⟨_, rfl, _, rfl, _, rfl, ad ((p : Int) + n - 2 * (j : Nat)), xf, L, Lf, _, _, _, _, 1, 62, 1, 63, rfl, (hL.same sG).same sm3, (hF.same sG).same sm3, tL.s, ⟨sLf, 1, 1, (rs p n).toNat, (rs (p + r + 1) n).toNat, by decide +kernel, ?_, by decide, by omega, by omega, by decide, by decide, ?_, ?_⟩, by decide, by decide, fun z Kz H7 s7 hz hK sK aK => ?_⟩
    · rw [Rat.divInt_eq_div, ← Rat.intCast_natCast, ← Rat.intCast_natCast, Int.toNat_of_nonneg (by omega), Int.toNat_of_nonneg (by omega)]
    · have e1' : ((2 ^ 39 : Nat) : Int) = 2 ^ 39 := by decide
      have : (2 : Nat) ^ 39 < 2 ^ 63 := by decide
      omega
    · have e1' : ((2 ^ 62 : Nat) : Int) = 2 ^ 62 := by decide
      have : (2 : Nat) ^ 62 < 2 ^ 63 := by decide
      omega
    have sA := sm3.trans s7
    have hD7 := hDG.same sA
    have nk : (p : Int) + n - 2 * (j : Nat) ∉ topKs p n j := fun m => by
      obtain ⟨j', hj', e⟩ := List.mem_map.mp m
      have := List.mem_range.mp hj'
      omega
    have S := su_top hi (sK.1.of (Rat.mul_one _) rfl)
    have lv : LvP ((p : Int) + n) ((r : Int) + n) ((p : Int) + r) ((p : Int) + r) ((p : Int) + n - 2 * (j : Nat)) Kz := by
      have ev : (p : Int) + r - ((p : Int) + n - 2 * (j : Nat)) = (r : Int) - n + 2 * (j : Nat) := by omega
      refine lv_of ⟨by omega, by omega, by omega, by omega, by omega⟩ ⟨by omega, by omega, by omega, by omega, by omega⟩ ⟨by omega, by omega, by omega, by omega, by omega⟩ ⟨canB_iff.mpr ⟨by omega, by omega, by omega, by omega⟩, by omega⟩ ?_
      rw [ev]
      exact S
    have hp := hD7.put nk hK lv
    have ek : topKs p n j ++ [(p : Int) + n - 2 * (j : Nat)] = topKs p n (j + 1) := by
      unfold topKs
      rw [List.range_succ, List.map_append]
      rfl
    rw [ek] at hp
    refine ⟨_, Sum.inl ((p : Int) + n - 2 * (j : Nat)), rfl, hD7.at_, ?_, same_at (sG.trans sA) hD, _, hp⟩
    rw [List.length_map]
    unfold topKs
    rw [List.length_map, List.length_range]
    exact Nat.lt_of_le_of_lt (m := 41) (by omega) (by decide)
  · obtain ⟨sG, ad2, hDG⟩ := hP
    rw [List.length_map, lk] at hDG
    refine ⟨sG _ _ frz0, q D ad2 _ (fun b o' e => ?_) hdn (hDG.updF (sG _ _ frz0) nD.symm)⟩
    rw [upd_ne fun z => by rw [z, hd3] at e; cases e]
    exact sG _ _ (kF _ _ e)
end
end TC
namespace TCX
open PySem PySem.Spec PyProof.Rows L2
section
variable {X : Cx}
/-- max(a, b, c) -/
def rMax3 : List V → Hp → VK → Prop := fun vs H Q => ∃ a b c : Int, vs = [.int a, .int b, .int c] ∧ ∀ m, m ∈ [a, b, c] → (∀ y, y ∈ [a, b, c] → y ≤ m) → Q (.int m) H
theorem cr_max3 (calm : X.calm = true) : CallR X (.builtin "max") rMax3 := by
  intro pins s σ H vs us Q I r h
  obtain ⟨a, b, c, rfl, q⟩ := h
  match us, r with
  | [u1, u2, u3], .cons ⟨t1, e1⟩ (.cons ⟨t2, e2⟩ (.cons ⟨t3, e3⟩ .nil)) =>
  subst e1 e2 e3
  have fin : ∀ (m : Int) (tm : Tok) (g : Heap) (tk : Nat), (∀ d o, s.heap.get? d = some o → g.get? d = some o) → m ∈ [a, b, c] → (a ≤ m ∧ b ≤ m ∧ c ≤ m) → ∃ v H', Inv X pins σ H' { s with heap := g, toks := tk } ∧ RelV v (.int m tm) ∧ Q v H' := fun m tm g tk hk hm hle =>
    ⟨.int m, H, I.kept hk, ⟨_, rfl⟩, q m hm fun y hy => by
      simp only [List.mem_cons, List.not_mem_nil, or_false] at hy
      rcases hy with rfl | rfl | rfl
      · exact hle.1
      · exact hle.2.1
      · exact hle.2.2⟩
  refine max_three_ints (I.ok.hd calm) fun g tk hk => ?_
  by_cases h1 : b > a
  · by_cases h2 : c > b
    · rw [if_pos h1, if_pos h2]
      exact fin c t3 g tk hk (by simp) (by omega)
    · rw [if_pos h1, if_neg h2]
      exact fin b t2 g tk hk (by simp) (by omega)
  · by_cases h2 : c > a
    · rw [if_neg h1, if_pos h2]
      exact fin c t3 g tk hk (by simp) (by omega)
    · rw [if_neg h1, if_neg h2]
      exact fin a t1 g tk hk (by simp) (by omega)
/-- min(a, b, c) -/
def rMin3 : List V → Hp → VK → Prop := fun vs H Q => ∃ a b c : Int, vs = [.int a, .int b, .int c] ∧ ∀ m, m ∈ [a, b, c] → (∀ y, y ∈ [a, b, c] → m ≤ y) → Q (.int m) H
theorem cr_min3 (calm : X.calm = true) : CallR X (.builtin "min") rMin3 := by
  intro pins s σ H vs us Q I r h
  obtain ⟨a, b, c, rfl, q⟩ := h
  match us, r with
  | [u1, u2, u3], .cons ⟨t1, e1⟩ (.cons ⟨t2, e2⟩ (.cons ⟨t3, e3⟩ .nil)) =>
  subst e1 e2 e3
  have fin : ∀ (m : Int) (tm : Tok) (g : Heap) (tk : Nat), (∀ d o, s.heap.get? d = some o → g.get? d = some o) → m ∈ [a, b, c] → (m ≤ a ∧ m ≤ b ∧ m ≤ c) → ∃ v H', Inv X pins σ H' { s with heap := g, toks := tk } ∧ RelV v (.int m tm) ∧ Q v H' := fun m tm g tk hk hm hle =>
    ⟨.int m, H, I.kept hk, ⟨_, rfl⟩, q m hm fun y hy => by
      simp only [List.mem_cons, List.not_mem_nil, or_false] at hy
      rcases hy with rfl | rfl | rfl
      · exact hle.1
      · exact hle.2.1
      · exact hle.2.2⟩
  refine min_three_ints (I.ok.hd calm) fun g tk hk => ?_
  by_cases h1 : b < a
  · by_cases h2 : c < b
    · rw [if_pos h1, if_pos h2]
      exact fin c t3 g tk hk (by simp) (by omega)
    · rw [if_pos h1, if_neg h2]
      exact fin b t2 g tk hk (by simp) (by omega)
  · by_cases h2 : c < a
    · rw [if_neg h1, if_pos h2]
      exact fin c t3 g tk hk (by simp) (by omega)
    · rw [if_neg h1, if_neg h2]
      exact fin a t1 g tk hk (by simp) (by omega)
end
end TCX
namespace TC
set_option exponentiation.threshold 20000
open PySem PySem.Spec PyProof.Rows L2 TCA TCX
/-! ### K12NC: numbers_below -/
/-- the number's square below, times the step -/
def nk (a u b v c w : Int) : Rat := jN a u b v c w * kap c w
theorem nk_frac {a u b v c w : Int} (w0 : 0 ≤ c + w) (w1 : w + 2 ≤ c) : nk a u b v c w = ((prodF (jAb a u b v c w) * (c + w + 2).toNat : Nat) : Rat) / ((prodF (jBe a b c) * (c - w).toNat : Nat) : Rat) := by
  have e1 : ((c + w + 2 : Int) : Rat) = (((c + w + 2).toNat : Nat) : Rat) := by
    rw [← Rat.intCast_natCast, Int.toNat_of_nonneg (by omega)]
  have e2 : ((c - w : Int) : Rat) = (((c - w).toNat : Nat) : Rat) := by
    rw [← Rat.intCast_natCast, Int.toNat_of_nonneg (by omega)]
  unfold nk jN kap
  rw [e1, e2, Rat.natCast_mul, Rat.natCast_mul]
  have z1 := ne_of_pos (pos_nat (prodF_pos (jBe a b c)))
  have z2 := ne_of_pos (pos_nat (show 0 < (c - w).toNat by omega))
  generalize ((prodF (jAb a u b v c w) : Nat) : Rat) = x1
  generalize ((prodF (jBe a b c) : Nat) : Rat) = x2 at *
  generalize (((c + w + 2).toNat : Nat) : Rat) = x3
  generalize (((c - w).toNat : Nat) : Rat) = x4 at *
  grind
structure Dn (a u b c w : Int) : Prop where
  h1 : PairP a u
  h2 : PairP b (w - u)
  h3 : PairP c w
  w1 : w + 2 ≤ c
  j : canB a b c = true
theorem Dn.sub {a u b c w : Int} (h : Dn a u b c w) {L : List Part} {s : Int} {A : Nat} (S : Su L ((s : Int) : Rat) (nk a u b (w - u) c w)) (hs : s.natAbs < 2 ^ A) (hA : 0 < A) : SuB L ((s : Int) : Rat) (nk a u b (w - u) c w) A 800 := by
  have c0 := h.h3.t0
  have c1 := h.h3.t1
  have wl := h.h3.lo
  have wh := h.h3.hi
  have w1 := h.w1
  obtain ⟨k1, k2, k3, k4⟩ := canB_iff.mp h.j
  have b1 := jAb_bd h.h1 h.h2 h.h3
  have b2 := jBe_bd h.h1.t0 h.h1.t1 h.h2.t0 h.h2.t1 c0 c1 k2 k3 k4
  have p1 := prodF_pos (jAb a u b (w - u) c w)
  have p2 := prodF_pos (jBe a b c)
  refine ⟨S, s, 1, _, _, (Rat.num_divInt_den ((s : Int) : Rat)).symm, nk_frac (by omega) w1, by decide, Nat.mul_pos p1 (by omega), Nat.mul_pos p2 (by omega), hs, Nat.one_lt_two_pow (by omega), ?_, ?_⟩
  · have e : (2 : Nat) ^ 700 * 2 ^ 10 ≤ 2 ^ 800 := by rw [← Nat.pow_add]; exact Nat.pow_le_pow_right (by decide) (by decide)
    exact Nat.lt_of_lt_of_le (Nat.mul_lt_mul'' b1 (show (c + w + 2).toNat < 2 ^ 10 by omega)) e
  · have e : (2 : Nat) ^ 770 * 2 ^ 10 ≤ 2 ^ 800 := by rw [← Nat.pow_add]; exact Nat.pow_le_pow_right (by decide) (by decide)
    exact Nat.lt_of_lt_of_le (Nat.mul_lt_mul'' b2 (show (c - w).toNat < 2 ^ 10 by omega)) e
/-- what both parts of a sum are -/
def sU (a u b c w : Int) : Int := if u < a then (a + u + 2) * jSum a (u + 2) b (w - u) c else 0
def sV (a u b c w : Int) : Int := if w - u < b then (b + (w - u) + 2) * jSum a u b (w - u + 2) c else 0
theorem sUV {a u b c w : Int} (h : Dn a u b c w) : (((sU a u b c w : Int) : Rat) + ((sV a u b c w : Int) : Rat)) = ((c - w : Int) : Rat) * ((jSum a u b (w - u) c : Int) : Rat) := by
  obtain ⟨a0, a1, a2, a3, a4⟩ := h.h1
  obtain ⟨b0, b1, b2, b3, b4⟩ := h.h2
  obtain ⟨k1, k2, k3, k4⟩ := canB_iff.mp h.j
  have e := jSum_down (a := a) (u := u) (b := b) (v := w - u) (c := c) (by omega) (by omega) k1 k4 k2 k3 (by omega) a3 (by omega) b3
  rw [show u + (w - u) = w by omega] at e
  rw [← Rat.intCast_mul, e, ← Rat.intCast_add, Int.add_comm]
  rfl
theorem wide900 {x y : Int} (hx : x.natAbs < 2 ^ 900) (h0 : 0 ≤ y) (h1 : y ≤ 100) : (y * x).natAbs < 2 ^ 908 := by
  rw [Int.natAbs_mul]
  have : (2 : Nat) ^ 908 = 2 ^ 8 * 2 ^ 900 := by rw [← Nat.pow_add]
  rw [this]
  exact Nat.mul_lt_mul'' (show y.natAbs < 2 ^ 8 by omega) hx
theorem sU_lt {a u b c w : Int} (h : Dn a u b c w) : (sU a u b c w).natAbs < 2 ^ 908 := by
  obtain ⟨a0, a1, a2, a3, a4⟩ := h.h1
  obtain ⟨b0, b1, b2, b3, b4⟩ := h.h2
  obtain ⟨c0, c1, c2, c3, c4⟩ := h.h3
  have w1 := h.w1
  unfold sU
  split
  · exact wide900 (jSum_lt (w := w + 2) ⟨a0, a1, by omega, by omega, by omega⟩ h.h2 ⟨c0, c1, by omega, by omega, by omega⟩ ⟨h.j, by omega⟩) (by omega) (by omega)
  · exact Nat.pow_pos (by decide)
theorem sV_lt {a u b c w : Int} (h : Dn a u b c w) : (sV a u b c w).natAbs < 2 ^ 908 := by
  obtain ⟨a0, a1, a2, a3, a4⟩ := h.h1
  obtain ⟨b0, b1, b2, b3, b4⟩ := h.h2
  obtain ⟨c0, c1, c2, c3, c4⟩ := h.h3
  have w1 := h.w1
  unfold sV
  split
  · exact wide900 (jSum_lt (w := w + 2) h.h1 ⟨b0, b1, by omega, by omega, by omega⟩ ⟨c0, c1, by omega, by omega, by omega⟩ ⟨h.j, by omega⟩) (by omega) (by omega)
  · exact Nat.pow_pos (by decide)
end TC
namespace TC
set_option exponentiation.threshold 20000
open PySem PySem.Spec PyProof.Rows L2 TCA TCX
section
variable {P : Program} {w : World} {K : PySem.W.Frag} {mg : Str → Option Value} {base : Heap} {f : Addr} {fd : FuncData} {C fI fQ : Addr}
def spBelowN (C : Addr) : Sp := fun vs H Q _ => ∃ (d ps rc : Addr) (a b c w lo hi : Int) (ks : List Int) (ad : Int → Addr), vs = [.ref d, .ref ps, .int w, .ref rc] ∧ H ps = some (.tup [.int a, .int b, .int c]) ∧ H rc = some (.tup [.int lo, .int hi]) ∧
  0 ≤ a ∧ a ≤ 40 ∧ 0 ≤ b ∧ b ≤ 40 ∧ 0 ≤ c ∧ c ≤ 40 ∧ canB a b c = true ∧ (c + w) % 2 = 0 ∧ -c ≤ w - 2 ∧ w ≤ c ∧ (a - lo) % 2 = 0 ∧ -200 ≤ lo ∧ lo ≤ 200 ∧ -200 ≤ hi ∧ hi ≤ 200 ∧ NumD C (LvP a b c w) H d ks ad ∧
  (∀ u, lo ≤ u → -a ≤ u → w - 2 - b ≤ u → u ≤ hi → u ≤ a → u ≤ w - 2 + b → (a - u) % 2 = 0 → (u < a → u + 2 ∈ ks) ∧ (w - 2 - u < b → u ∈ ks)) ∧
  ∀ d' ks' ad' H', Same H H' → H d' = none → NumD C (LvP a b c (w - 2)) H' d' ks' ad' → (∀ u, lo ≤ u → -a ≤ u → w - 2 - b ≤ u → u ≤ hi → u ≤ a → u ≤ w - 2 + b → (a - u) % 2 = 0 → u ∈ ks') → Q (.ref d') H'
abbrev nBelowN : List Str := ["numbers", "sizes", "w", "reach", "a", "b", "c", "lowest", "highest", "part", "found", "u", "v", "total"]
theorem scBelowN : FnScope nBelowN ["numbers", "sizes", "w", "reach"] (defScope sBelowN) := ⟨rfl, rfl, rfl, by decide +kernel, rfl, by decide +kernel, by decide +kernel⟩
theorem ok_belowN {fE fT fP : Addr} {fdE fdT fdP : FuncData} (F : FnP K "numbers_below" sBelowN f fd) (FE : FnE K fE fdE) (GE : FnOk P w K mg base CX0 4 fE fdE psE (spExact C)) (gE : mg "exact" = some (.ref fE))
    (GT : FnOk P w K mg base CX0 4 fT fdT ["one", "other"] (spTimesA C)) (bT : L2.Binds K fdT ["one", "other"] []) (kT : PySem.W.keepIn K (.ref fT) = true) (gT : mg "times" = some (.ref fT))
    (GP : FnOk P w K mg base CX0 4 fP fdP ["one", "other"] (spPlusA C)) (bP : L2.Binds K fdP ["one", "other"] []) (kP : PySem.W.keepIn K (.ref fP) = true) (gP : mg "plus" = some (.ref fP))
    (grange : mg "range" = none) (gmax : mg "max" = none) (gmin : mg "min" = none) :
    FnOk P w K mg base CX0 5 f fd ["numbers", "sizes", "w", "reach"] (spBelowN C) := by
  obtain ⟨dsE, vE, bE⟩ := bE0 FE
  obtain ⟨mvR, kbR⟩ := bEr FE
  obtain ⟨mvB, kbB⟩ := bEbr FE
  refine F.ok scBelowN (fun vs H Q E h => ?_) (fun cdv Ar outer s H vs Q E' hr h => ?_)
  · obtain ⟨_, _, _, _, _, _, _, _, _, _, _, rfl, _⟩ := h
    rfl
  obtain ⟨d, ps, rc, a, b, c, t, lo, hi, ks, ad, rfl, hps, hrc, a0, a1, b0, b1, c0, c1, cj, cp, w0, w1, lp, l0, l1, h0, h1, hD, hks, q⟩ := h
  obtain ⟨k1, k2, k3, k4⟩ := canB_iff.mp cj
  have hu := hu_of hr
  have hr2 := hr.mono (j := 2) (by decide)
  have hr4 := hr
  refine ⟨_, PSs.nox (C8.pss_cut (ps_asg (pv 1) (pg_tup rfl (pgs_cons (pg_name (i := 4) scBelowN.nd rfl (.inl rfl)) (pgs_cons (pg_name (i := 5) scBelowN.nd rfl (.inl rfl)) (pgs_cons (pg_name (i := 6) scBelowN.nd rfl (.inl rfl)) pgs_nil)))))
      (C8.pss_cut (ps_asg (pv 3) (pg_tup rfl (pgs_cons (pg_name (i := 7) scBelowN.nd rfl (.inl rfl)) (pgs_cons (pg_name (i := 8) scBelowN.nd rfl (.inl rfl)) pgs_nil))))
      (C8.pss_cut (ps_set (i := 9) scBelowN.nd rfl (.inl rfl) (pe_op op_mul (pe_op op_add (pv 6) (pv 2)) (pe_op op_add (pe_op op_sub (pv 6) (pv 2)) pe_int)))
      (C8.pss_cut (ps_set (i := 10) scBelowN.nd rfl (.inl rfl) pe_dnewK)
      (C8.pss_cut (ps_for PassesOwn.never rfl (pi_range3 (by rfl) grange (pa_cons (pe_callB (cr_max3 rfl) (by rfl) gmax (by decide +kernel) (pa_cons (pv 7) (pa_cons (pe_un un_neg (pv 4)) (pa_cons (pe_op op_sub (pe_op op_sub (pv 2) pe_int) (pv 5)) pa_nil)))) (pa_cons (pe_op op_add (pe_callB (cr_min3 rfl) (by rfl) gmin (by decide +kernel) (pa_cons (pv 8) (pa_cons (pv 4) (pa_cons (pe_op op_add (pe_op op_sub (pv 2) pe_int) (pv 5)) pa_nil)))) pe_int) (pa_cons pe_int pa_nil)))) (pg_name (i := 11) scBelowN.nd rfl (.inl rfl))
        (C8.pss_cut (ps_set (i := 12) scBelowN.nd rfl (.inl rfl) (pe_op op_sub (pe_op op_sub (pv 2) pe_int) (pv 11)))
      (C8.pss_cut (ps_set (i := 13) scBelowN.nd rfl (.inl rfl) (pe_call GE hr4 (by rfl) gE FE.kp bE vE pass0 (pa_cons pe_int pa_nil)))
      (C8.pss_cut (ps_if (pt_cmpR op_lt (pv 11) (pv 4) (nomark _)) (pss_one (ps_set (i := 13) scBelowN.nd rfl (.inl rfl) (pe_call GP hr4 (by rfl) gP kP bP .nil pass0 (pa_cons (pv 13) (pa_cons (pe_call GT hr4 (by rfl) gT kT bT .nil pass0 (pa_cons (pe_dget hu (pv 0) (pe_op op_add (pv 11) pe_int) (fun _ _ => rfl)) (pa_cons (pe_callN GE hr4 (by rfl) gE FE.kp kbR pass0 (pa_cons pe_int pa_nil) (pk_cons (pe_op op_mul (pe_op op_add (pe_op op_add (pv 4) (pv 11)) pe_int) (pe_op op_sub (pv 4) (pv 11))) pk_nil)) pa_nil))) pa_nil))))) pss_nil)
      (C8.pss_cut (ps_if (pt_cmpR op_lt (pv 12) (pv 5) (nomark _)) (pss_one (ps_set (i := 13) scBelowN.nd rfl (.inl rfl) (pe_call GP hr4 (by rfl) gP kP bP .nil pass0 (pa_cons (pv 13) (pa_cons (pe_call GT hr4 (by rfl) gT kT bT .nil pass0 (pa_cons (pe_dget hu (pv 0) (pv 11) (fun _ _ => rfl)) (pa_cons (pe_callN GE hr4 (by rfl) gE FE.kp kbR pass0 (pa_cons pe_int pa_nil) (pk_cons (pe_op op_mul (pe_op op_add (pe_op op_add (pv 5) (pv 12)) pe_int) (pe_op op_sub (pv 5) (pv 12))) pk_nil)) pa_nil))) pa_nil))))) pss_nil)
      (pss_one (ps_dput hu (pv 10) (pv 11) (pe_call GT hr4 (by rfl) gT kT bT .nil pass0 (pa_cons (pv 13) (pa_cons (pe_callN GE hr4 (by rfl) gE FE.kp kbB pass0 (pa_cons pe_int pa_nil) (pk_cons (pv 9) (pk_cons (pv 9) pk_nil))) pa_nil))) rfl)))))))
      (pss_one (ps_ret (pv 10)))))))), ?_⟩
  have rtP := rtL_even (x := c + t) (y := c - t + 2) (by omega) (by omega) (by omega) (by omega) (by omega)
  refine ⟨fun σ H1 => σ = [some (.ref d), some (.ref ps), some (.int t), some (.ref rc), some (.int a), some (.int b), some (.int c), none, none, none, none, none, none, none] ∧ H1 = H, ⟨_, rfl, ps, _, rfl, SqT.of hps, rfl, _, _, rfl, _, _, rfl, _, _, rfl, rfl, rfl, rfl⟩, fun σ H1 hh => ?_⟩
  obtain ⟨rfl, rfl⟩ := hh
  refine ⟨fun σ H2 => σ = [some (.ref d), some (.ref ps), some (.int t), some (.ref rc), some (.int a), some (.int b), some (.int c), some (.int lo), some (.int hi), none, none, none, none, none] ∧ H2 = H1, ⟨_, rfl, rc, _, rfl, SqT.of hrc, rfl, _, _, rfl, _, _, rfl, rfl, rfl, rfl⟩, fun σ H2 hh => ?_⟩
  obtain ⟨rfl, rfl⟩ := hh
  refine ⟨fun σ H3 => σ = [some (.ref d), some (.ref ps), some (.int t), some (.ref rc), some (.int a), some (.int b), some (.int c), some (.int lo), some (.int hi), some (.int ((c + t) * (c - t + 2))), none, none, none, none] ∧ H3 = H2, ⟨_, rfl, _, rfl, _, _, rfl, rfl, _, rfl, _, rfl, _, _, rfl, rfl, _, _, rfl, rfl, _, _, rfl, rfl, cmul_r (by omega) (by omega), rfl, rfl⟩, fun σ H3 hh => ?_⟩
  obtain ⟨rfl, rfl⟩ := hh
  refine ⟨fun σ H4 => ∃ e : Addr, σ = [some (.ref d), some (.ref ps), some (.int t), some (.ref rc), some (.int a), some (.int b), some (.int c), some (.int lo), some (.int hi), some (.int ((c + t) * (c - t + 2))), some (.ref e), none, none, none] ∧ Same H3 H4 ∧ H3 e = none ∧ NumD C (LvP a b c (t - 2)) H4 e [] ad, fun e he => ⟨e, rfl, same_upd he, he, NumD.empty upd_same⟩, fun σ H4 hh => ?_⟩
  obtain ⟨e, rfl, s4, he, hE⟩ := hh
  -- the loop
  refine ⟨fun σ H5 => ∃ (ks' : List Int) (ad' : Int → Addr) (v11 v12 v13 : Option V), σ = [some (.ref d), some (.ref ps), some (.int t), some (.ref rc), some (.int a), some (.int b), some (.int c), some (.int lo), some (.int hi), some (.int ((c + t) * (c - t + 2))), some (.ref e), v11, v12, v13] ∧ Same H3 H5 ∧ NumD C (LvP a b c (t - 2)) H5 e ks' ad' ∧ (∀ u, lo ≤ u → -a ≤ u → t - 2 - b ≤ u → u ≤ hi → u ≤ a → u ≤ t - 2 + b → (a - u) % 2 = 0 → u ∈ ks'), ?_, fun σ H5 hh => ?_⟩
  · refine ⟨_, rfl, _, rfl, _, rfl, _, rfl, _, _, rfl, rfl, _, rfl, _, _, rfl, rfl, _, _, _, rfl, fun s hs1 hs2 => ?_⟩
    refine ⟨_, rfl, _, rfl, _, rfl, _, _, rfl, rfl, _, rfl, _, _, rfl, rfl, _, _, _, rfl, fun m hm1 hm2 => ?_⟩
    have s0 : lo ≤ s ∧ -a ≤ s ∧ t - 2 - b ≤ s := ⟨hs2 _ (by simp), hs2 _ (by simp), hs2 _ (by simp)⟩
    have m0 : m ≤ hi ∧ m ≤ a ∧ m ≤ t - 2 + b := ⟨hm2 _ (by simp), hm2 _ (by simp), hm2 _ (by simp)⟩
    have sp : (a - s) % 2 = 0 := by
      rcases List.mem_cons.mp hs1 with z | z
      · omega
      · rcases List.mem_cons.mp z with z | z
        · omega
        · have := List.mem_singleton.mp z
          omega
    have sl : -300 ≤ s ∧ s ≤ 300 := by
      rcases List.mem_cons.mp hs1 with z | z
      · omega
      · rcases List.mem_cons.mp z with z | z
        · omega
        · have := List.mem_singleton.mp z
          omega
    have ml : -300 ≤ m ∧ m ≤ 300 := by
      rcases List.mem_cons.mp hm1 with z | z
      · omega
      · rcases List.mem_cons.mp z with z | z
        · omega
        · have := List.mem_singleton.mp z
          omega
    obtain ⟨n, hn, hsz⟩ : ∃ n : Nat, (∀ i : Nat, i < n ↔ s + 2 * i ≤ m) ∧ Builtin.Range.rangeSize s (m + 1) 2 = n := by
      by_cases z : s ≤ m
      · exact ⟨((m - s) / 2 + 1).toNat, fun i => by omega, size2 (by omega) (by omega)⟩
      · exact ⟨0, fun i => by omega, size2_0 (by omega)⟩
    refine ⟨_, _, rfl, rfl, s, m + 1, 2, n, rfl, ⟨by decide, by decide, small2 (by omega) (by omega) (by omega) (by omega), hsz⟩, ?_⟩
    refine for_rangeC (lo := s) (c := 2) (n := n) (fun i σ G => ∃ (ad' : Int → Addr) (v11 v12 v13 : Option V), σ = [some (.ref d), some (.ref ps), some (.int t), some (.ref rc), some (.int a), some (.int b), some (.int c), some (.int lo), some (.int hi), some (.int ((c + t) * (c - t + 2))), some (.ref e), v11, v12, v13] ∧ Same H3 G ∧ NumD C (LvP a b c (t - 2)) G e ((List.range i).map fun (k : Nat) => s + 2 * k) ad')
      ⟨ad, none, none, none, rfl, s4, hE⟩ (fun i σ G hi' hP => ?_) (fun σ G hP => ?_)
    rotate_left
    · obtain ⟨ad', v11, v12, v13, rfl, sG, hG⟩ := hP
      refine ⟨_, ad', v11, v12, v13, rfl, sG, hG, fun u g1 g2 g3 g4 g5 g6 g7 => ?_⟩
      have gs : s ≤ u := by
        rcases List.mem_cons.mp hs1 with z | z
        · omega
        · rcases List.mem_cons.mp z with z | z
          · omega
          · have := List.mem_singleton.mp z
            omega
      have gm : u ≤ m := by
        rcases List.mem_cons.mp hm1 with z | z
        · omega
        · rcases List.mem_cons.mp z with z | z
          · omega
          · have := List.mem_singleton.mp z
            omega
      exact List.mem_map.mpr ⟨((u - s) / 2).toNat, List.mem_range.mpr ((hn _).mpr (by omega)), by omega⟩
    obtain ⟨ad', v11, v12, v13, rfl, sG, hG⟩ := hP
    have iu := (hn i).mp hi'
    obtain ⟨u, eu⟩ : ∃ u : Int, s + ((i : Nat) : Int) * 2 = u := ⟨_, rfl⟩
    rw [eu]
    have hD1 := hD.same sG
    have dn : Dn a u b c (t - 2) := ⟨⟨a0, a1, by omega, by omega, by omega⟩, ⟨b0, b1, by omega, by omega, by omega⟩, ⟨c0, c1, by omega, by omega, by omega⟩, by omega, cj⟩
    have ku := hks u (by omega) (by omega) (by omega) (by omega) (by omega) (by omega) (by omega)
    -- v
    refine ⟨fun σ G1 => σ = [some (.ref d), some (.ref ps), some (.int t), some (.ref rc), some (.int a), some (.int b), some (.int c), some (.int lo), some (.int hi), some (.int ((c + t) * (c - t + 2))), some (.ref e), some (.int u), some (.int (t - 2 - u)), v13] ∧ G1 = G, ⟨_, rfl, _, _, rfl, rfl, _, rfl, _, _, rfl, rfl, rfl, rfl⟩, fun σ G1 hh => ?_⟩
    obtain ⟨rfl, rfl⟩ := hh
    -- total
    refine ⟨fun σ G2 => ∃ x : Addr, σ = [some (.ref d), some (.ref ps), some (.int t), some (.ref rc), some (.int a), some (.int b), some (.int c), some (.int lo), some (.int hi), some (.int ((c + t) * (c - t + 2))), some (.ref e), some (.int u), some (.int (t - 2 - u)), some (.ref x)] ∧ Same G1 G2 ∧ NumAt C G2 x [], ⟨0, 1, 1, 40, rfl, by decide, by decide, by decide, by decide, root_ok1, fun x H2 s2 hx hN => ⟨x, rfl, s2, by rw [exL_one, show oneL 1 0 1 = [] from if_pos rfl] at hN; exact hN⟩⟩, fun σ G2 hh => ?_⟩
    obtain ⟨x0, rfl, g2, hx0⟩ := hh
    have nu0 : ((0 : Int) : Rat) = 0 := rfl
    have S0 : SuB [] ((0 : Int) : Rat) (nk a u b (t - 2 - u) c (t - 2)) 908 800 := dn.sub (Su.nil _) (Nat.pow_pos (by decide)) (by decide)
    -- the part of u
    refine ⟨fun σ G3 => ∃ (x : Addr) (L : List Part), σ = [some (.ref d), some (.ref ps), some (.int t), some (.ref rc), some (.int a), some (.int b), some (.int c), some (.int lo), some (.int hi), some (.int ((c + t) * (c - t + 2))), some (.ref e), some (.int u), some (.int (t - 2 - u)), some (.ref x)] ∧ Same G2 G3 ∧ NumAt C G3 x L ∧ SuB L ((sU a u b c (t - 2) : Int) : Rat) (nk a u b (t - 2 - u) c (t - 2)) 908 800, ?_, fun σ G3 hh => ?_⟩
    · refine ⟨_, rfl, _, rfl, u, a, rfl, rfl, _, rfl, ?_⟩
      by_cases z : u < a
      · refine iteD1 z ?_
        obtain ⟨L, hL, lv⟩ := (hD1.same g2).v _ (ku.1 z)
        have rt := rtL_even (x := a + u + 2) (y := a - u) (by omega) (by omega) (by omega) (by omega) (by omega)
        refine ⟨_, rfl, _, rfl, _, rfl, _, _, rfl, rfl, d, _, rfl, dget_in (hD1.same g2).at_ (kvI_val (ku.1 z)), _, rfl, _, rfl, _, _, rfl, rfl, _, _, rfl, rfl, _, rfl, _, rfl, _, _, rfl, rfl, _, _, rfl, rfl, cmul_r (by omega) (by omega), rfl, rfl, 1, 1, _, 40, rfl, by decide, by decide, by decide, by decide, rt.ok, fun y H5 s5 hy hN => ?_⟩
        have lv' : SuB L ((jSum a (u + 2) b (t - 2 - u) c : Int) : Rat) (jN a (u + 2) b (t - 2 - u) c (t - 2 + 2)) 900 780 := by
          have := lv
          unfold LvP at this
          rw [show t - (u + 2) = t - 2 - u by omega] at this
          rw [show t - 2 + 2 = t by omega]
          exact this
        refine ⟨_, y, L, _, _, _, _, _, 900, 780, 1, 24, rfl, hL.same s5, hN, lv', rt.sub (t := 1) (b := 1) (by decide) (by decide) (by decide), by decide, by decide, fun z2 Kz H6 s6 hz hK sK aK => ?_⟩
        have S1 := su_u (a := a) (u := u) (b := b) (v := t - 2 - u) (c := c) (w := t - 2) (K := Kz) (s := ((jSum a (u + 2) b (t - 2 - u) c : Int) : Rat)) (by omega) (by omega) (by omega) (by omega) (by omega) (by omega) (sK.1.of (by rw [show Rat.divInt 1 ((1 : Nat) : Int) = 1 by decide +kernel]) rfl)
        have S2 := dn.sub (A := 908) (S1.of (s' := ((sU a u b c (t - 2) : Int) : Rat)) (by unfold sU; rw [if_pos z, Rat.intCast_mul, Rat.mul_comm]) rfl) (sU_lt dn) (by decide)
        refine ⟨x0, z2, [], Kz, _, _, _, 908, 800, 908, 800, rfl, (hx0.same s5).same s6, hK, S0, S2, by decide, by decide, fun y2 Ky H7 s7 hy2 hKy sKy => ?_⟩
        exact ⟨y2, Ky, rfl, (s5.trans s6).trans s7, hKy, dn.sub (sKy.1.of (by rw [nu0, Rat.zero_add]) rfl) (sU_lt dn) (by decide)⟩
      · refine iteD0 z ⟨x0, [], rfl, Same.refl _, hx0, ?_⟩
        rw [show sU a u b c (t - 2) = 0 by unfold sU; rw [if_neg z]]
        exact S0
    obtain ⟨x1, L1, rfl, g3, hx1, S1⟩ := hh
    have g13 := g2.trans g3
    -- the part of v
    refine ⟨fun σ G4 => ∃ (x : Addr) (L : List Part), σ = [some (.ref d), some (.ref ps), some (.int t), some (.ref rc), some (.int a), some (.int b), some (.int c), some (.int lo), some (.int hi), some (.int ((c + t) * (c - t + 2))), some (.ref e), some (.int u), some (.int (t - 2 - u)), some (.ref x)] ∧ Same G3 G4 ∧ NumAt C G4 x L ∧ SuB L (((sU a u b c (t - 2) : Int) : Rat) + ((sV a u b c (t - 2) : Int) : Rat)) (nk a u b (t - 2 - u) c (t - 2)) 1817 800, ?_, fun σ G4 hh => ?_⟩
    · refine ⟨_, rfl, _, rfl, t - 2 - u, b, rfl, rfl, _, rfl, ?_⟩
      by_cases z : t - 2 - u < b
      · refine iteD1 z ?_
        obtain ⟨L, hL, lv⟩ := (hD1.same g13).v _ (ku.2 z)
        have rt := rtL_even (x := b + (t - 2 - u) + 2) (y := b - (t - 2 - u)) (by omega) (by omega) (by omega) (by omega) (by omega)
        refine ⟨_, rfl, _, rfl, _, rfl, d, _, rfl, dget_in (hD1.same g13).at_ (kvI_val (ku.2 z)), _, rfl, _, rfl, _, _, rfl, rfl, _, _, rfl, rfl, _, rfl, _, rfl, _, _, rfl, rfl, _, _, rfl, rfl, cmul_r (by omega) (by omega), rfl, rfl, 1, 1, _, 40, rfl, by decide, by decide, by decide, by decide, rt.ok, fun y H5 s5 hy hN => ?_⟩
        have lv' : SuB L ((jSum a u b (t - 2 - u + 2) c : Int) : Rat) (jN a u b (t - 2 - u + 2) c (t - 2 + 2)) 900 780 := by
          have := lv
          unfold LvP at this
          rw [show t - u = t - 2 - u + 2 by omega] at this
          rw [show t - 2 + 2 = t by omega]
          exact this
        refine ⟨_, y, L, _, _, _, _, _, 900, 780, 1, 24, rfl, hL.same s5, hN, lv', rt.sub (t := 1) (b := 1) (by decide) (by decide) (by decide), by decide, by decide, fun z2 Kz H6 s6 hz hK sK aK => ?_⟩
        have S3 := su_v (a := a) (u := u) (b := b) (v := t - 2 - u) (c := c) (w := t - 2) (K := Kz) (s := ((jSum a u b (t - 2 - u + 2) c : Int) : Rat)) (by omega) (by omega) (by omega) (by omega) (by omega) (by omega) (sK.1.of (by rw [show Rat.divInt 1 ((1 : Nat) : Int) = 1 by decide +kernel]) rfl)
        have S2 := dn.sub (A := 908) (S3.of (s' := ((sV a u b c (t - 2) : Int) : Rat)) (by unfold sV; rw [if_pos z, Rat.intCast_mul, Rat.mul_comm]) rfl) (sV_lt dn) (by decide)
        refine ⟨x1, z2, L1, Kz, _, _, _, 908, 800, 908, 800, rfl, (hx1.same s5).same s6, hK, S1, S2, by decide, by decide, fun y2 Ky H7 s7 hy2 hKy sKy => ?_⟩
        exact ⟨y2, Ky, rfl, (s5.trans s6).trans s7, hKy, sKy⟩
      · refine iteD0 z ⟨x1, L1, rfl, Same.refl _, hx1, ?_⟩
        rw [show sV a u b c (t - 2) = 0 by unfold sV; rw [if_neg z], nu0, Rat.add_zero]
        exact S1.mono (by decide) (Nat.le_refl _)
    obtain ⟨x2, L2', rfl, g4, hx2, S2⟩ := hh
    have g14 := g13.trans g4
    -- into the dict
    have nk' : u ∉ (List.range i).map fun (k : Nat) => s + 2 * (k : Int) := fun m => by
      obtain ⟨j, hj, e2⟩ := List.mem_map.mp m
      have := List.mem_range.mp hj
      omega
    have pt0 := rtP.r0
    have ptl := rtP.lt
    have b24 : ((2 ^ 24 : Nat) : Int) = 2 ^ 24 := by decide
    refine ⟨_, rfl, _, rfl, _, rfl, rfl, rfl, 1, (c + t) * (c - t + 2), (c + t) * (c - t + 2), 24, rfl, by omega, by omega, by decide, by decide, rtP.ok, fun y G5 s5 hy hN => ?_⟩
    have SP : SuB (exL 1 ((c + t) * (c - t + 2)) ((c + t) * (c - t + 2))) (Rat.divInt 1 ((c + t) * (c - t + 2))) (((c + t) * (c - t + 2) : Int) : Rat) 24 24 := by
      have := rtP.sub (t := 1) (b := ((c + t) * (c - t + 2)).toNat) (A := 24) (by omega) (by decide) (by omega)
      rwa [Int.toNat_of_nonneg (by omega)] at this
    refine ⟨x2, y, L2', _, _, _, _, _, 1817, 800, 24, 24, rfl, hx2.same s5, hN, S2, SP, by decide, by decide, fun z2 Kz G6 s6 hz hK sK aK => ?_⟩
    have ep : (c + (t - 2) + 2) * (c - (t - 2)) = (c + t) * (c - t + 2) := by congr 1 <;> omega
    have SF := su_part (a := a) (u := u) (b := b) (v := t - 2 - u) (c := c) (w := t - 2) (K := Kz) (by omega) (by omega) (sUV dn) (sK.1.of (by rw [ep]) (by rw [ep]; rfl))
    have lv := lv_of dn.h1 dn.h2 dn.h3 ⟨cj, by omega⟩ SF
    have s56 := s5.trans s6
    have hG6 := (hG.same g14).same s56
    refine ⟨_, rfl, _, rfl, e, _, rfl, .inl ⟨_, Sum.inl u, hG6.at_, rfl, ?_, rfl⟩, ?_⟩
    · rw [List.length_map, List.length_map, List.length_range]
      exact Nat.lt_of_le_of_lt (m := 1000) (by have := sl.1; omega) (by decide)
    have hp := hG6.put nk' hK lv
    have ek : ((List.range i).map fun (k : Nat) => s + 2 * (k : Int)) ++ [u] = (List.range (i + 1)).map fun (k : Nat) => s + 2 * (k : Int) := by
      rw [List.range_succ, List.map_append]
      show _ = _ ++ [s + 2 * (i : Int)]
      rw [show s + 2 * (i : Int) = u by omega]
    rw [ek] at hp
    exact ⟨_, _, _, _, rfl, same_at ((sG.trans g14).trans s56) he, hp⟩
  obtain ⟨ks', ad', v11, v12, v13, rfl, s5, hE5, hk5⟩ := hh
  exact ⟨_, rfl, q e ks' ad' _ s5 he hE5 hk5⟩
end
end TC
namespace TC
set_option exponentiation.threshold 20000
open PySem PySem.Spec PyProof.Rows L2 TCA TCX
section
variable {P : Program} {w : World} {K : PySem.W.Frag} {mg : Str → Option Value} {base : Heap} {f : Addr} {fd : FuncData} {C fI fQ : Addr}
/-! ### ladder -/
def spLadder (C : Addr) : Sp := fun vs H Q _ => ∃ (p1 p2 p3 : Addr) (a u b v c w : Int), vs = [.ref p1, .ref p2, .ref p3] ∧ H p1 = some (pairO (a, u)) ∧ H p2 = some (pairO (b, v)) ∧ H p3 = some (pairO (c, w)) ∧ PairP a u ∧ PairP b v ∧ PairP c w ∧
  ∀ x H', Same H H' → NumAt C H' x (joinL a u b v c w) → Q (.ref x) H'
abbrev nLadder : List Str := ["one", "other", "to", "a", "u", "b", "v", "c", "w", "numbers", "at"]
theorem scLadder : FnScope nLadder ["one", "other", "to"] (defScope sLadder) := ⟨rfl, rfl, rfl, by decide +kernel, rfl, by decide +kernel, by decide +kernel⟩
theorem ok_ladder {fE fN fJ fA fB : Addr} {fdE fdN fdJ fdA fdB : FuncData} (F : FnP K "ladder" sLadder f fd) (FE : FnE K fE fdE) (GE : FnOk P w K mg base CX0 4 fE fdE psE (spExact C)) (gE : mg "exact" = some (.ref fE))
    (GN : FnOk P w K mg base CX0 4 fN fdN ["things"] spNeedPairs) (bN : L2.Binds K fdN ["things"] []) (kN : PySem.W.keepIn K (.ref fN) = true) (gN : mg "need_pairs" = some (.ref fN))
    (GJ : FnOk P w K mg base CX0 2 fJ fdJ ["one", "other", "third"] spCanJoin) (bJ : L2.Binds K fdJ ["one", "other", "third"] []) (kJ : PySem.W.keepIn K (.ref fJ) = true) (gJ : mg "can_join" = some (.ref fJ))
    (GA : FnOk P w K mg base CX0 5 fA fdA ["a", "b", "c"] (spTopN C)) (bA : L2.Binds K fdA ["a", "b", "c"] []) (kA : PySem.W.keepIn K (.ref fA) = true) (gA : mg "numbers_at_top" = some (.ref fA))
    (GB : FnOk P w K mg base CX0 5 fB fdB ["numbers", "sizes", "w", "reach"] (spBelowN C)) (bB : L2.Binds K fdB ["numbers", "sizes", "w", "reach"] []) (kB : PySem.W.keepIn K (.ref fB) = true) (gB : mg "numbers_below" = some (.ref fB))
    (grange : mg "range" = none) :
    FnOk P w K mg base CX0 6 f fd ["one", "other", "to"] (spLadder C) := by
  obtain ⟨dsE, vE, bE⟩ := bE0 FE
  refine F.ok scLadder (fun vs H Q E h => ?_) (fun cdv Ar outer s H vs Q E' hr h => ?_)
  · obtain ⟨_, _, _, _, _, _, _, _, _, rfl, _⟩ := h
    rfl
  obtain ⟨p1, p2, p3, a, u, b, v, c, w, rfl, hp1, hp2, hp3, P1, P2, P3, q⟩ := h
  have hu := hu_of hr
  have hr2 := hr.mono (j := 2) (by decide)
  have hr4 := hr.mono (j := 4) (by decide)
  have hr5 := hr
  refine ⟨_, PSs.nox (C8.pss_cut (ps_expr (pe_call GN hr4 (by rfl) gN kN bN .nil pass0 (pa_cons (pe_lst (pa_cons (pv 0) (pa_cons (pv 1) (pa_cons (pv 2) pa_nil)))) pa_nil)))
      (C8.pss_cut (ps_asg (pe_tup (pa_cons (pv 0) (pa_cons (pv 1) (pa_cons (pv 2) pa_nil)))) (pg_tup rfl (pgs_cons (pg_tup rfl (pgs_cons (pg_name (i := 3) scLadder.nd rfl (.inl rfl)) (pgs_cons (pg_name (i := 4) scLadder.nd rfl (.inl rfl)) pgs_nil))) (pgs_cons (pg_tup rfl (pgs_cons (pg_name (i := 5) scLadder.nd rfl (.inl rfl)) (pgs_cons (pg_name (i := 6) scLadder.nd rfl (.inl rfl)) pgs_nil))) (pgs_cons (pg_tup rfl (pgs_cons (pg_name (i := 7) scLadder.nd rfl (.inl rfl)) (pgs_cons (pg_name (i := 8) scLadder.nd rfl (.inl rfl)) pgs_nil))) pgs_nil)))))
      (C8.pss_cut (ps_if (PW.pt (pw_or (pt_not (pt_val (pe_call GJ hr2 (by rfl) gJ kJ bJ .nil pass0 (pa_cons (pv 3) (pa_cons (pv 5) (pa_cons (pv 7) pa_nil)))))) (pw_or1 (pt_cmpR op_ne (pe_op op_add (pv 4) (pv 6)) (pv 8) (nomark _))))) (pss_one (ps_ret (pe_call GE hr4 (by rfl) gE FE.kp bE vE pass0 (pa_cons pe_int pa_nil)))) pss_nil)
      (C8.pss_cut (ps_set (i := 9) scLadder.nd rfl (.inl rfl) (pe_call GA hr5 (by rfl) gA kA bA .nil pass0 (pa_cons (pv 3) (pa_cons (pv 5) (pa_cons (pv 7) pa_nil)))))
      (C8.pss_cut (ps_for PassesOwn.never rfl (pi_range3 (by rfl) grange (pa_cons (pv 7) (pa_cons (pv 8) (pa_cons (pe_un un_neg pe_int) pa_nil)))) (pg_name (i := 10) scLadder.nd rfl (.inl rfl))
        (pss_one (ps_set (i := 9) scLadder.nd rfl (.inl rfl) (pe_call GB hr5 (by rfl) gB kB bB .nil pass0 (pa_cons (pv 9) (pa_cons (pe_tup (pa_cons (pv 3) (pa_cons (pv 5) (pa_cons (pv 7) pa_nil)))) (pa_cons (pv 10) (pa_cons (pe_tup (pa_cons (pv 4) (pa_cons (pe_op op_sub (pe_op op_sub (pe_op op_add (pv 4) (pv 10)) pe_int) (pv 8)) pa_nil))) pa_nil))))))))
      (pss_one (ps_ret (pe_dget hu (pv 9) (pv 4) (fun _ _ => rfl))))))))), ?_⟩
  -- pairs
  refine ⟨fun σ H1 => σ = [some (.ref p1), some (.ref p2), some (.ref p3), none, none, none, none, none, none, none, none] ∧ Same H H1, ?_, fun σ H1 hM => ?_⟩
  · refine ⟨_, rfl, _, rfl, _, rfl, by show 3 ≤ sizeLine; decide, fun l hl => ?_⟩
    have s1 := same_upd (o := .lst [.ref p1, .ref p2, .ref p3]) hl
    refine ⟨l, [p1, p2, p3], [(a, u), (b, v), (c, w)], rfl, upd_same, ⟨s1 _ _ hp1, s1 _ _ hp2, s1 _ _ hp3, trivial⟩, ?_, fun H2 s2 => ⟨rfl, s1.trans s2⟩⟩
    intro x hx
    simp only [List.mem_cons, List.not_mem_nil, or_false] at hx
    rcases hx with rfl | rfl | rfl
    · exact P1
    · exact P2
    · exact P3
  obtain ⟨rfl, t0⟩ := hM
  replace hp1 := t0 _ _ hp1
  replace hp2 := t0 _ _ hp2
  replace hp3 := t0 _ _ hp3
  refine ⟨fun σ H' => σ = [some (.ref p1), some (.ref p2), some (.ref p3), some (.int a), some (.int u), some (.int b), some (.int v), some (.int c), some (.int w), none, none] ∧ Same H1 H', ?_, fun σ H2 hM => ?_⟩
  · refine ⟨_, rfl, _, rfl, _, rfl, by show 3 ≤ sizeLine; decide, fun l hl => ?_⟩
    have s2 := same_upd (o := .tup [.ref p1, .ref p2, .ref p3]) hl
    exact ⟨l, _, rfl, SqT.of upd_same, rfl, _, _, rfl, p1, _, rfl, SqT.of (s2 _ _ hp1), rfl, _, _, rfl, _, _, rfl, rfl, _, _, rfl, p2, _, rfl, SqT.of (s2 _ _ hp2), rfl, _, _, rfl, _, _, rfl, rfl, _, _, rfl, p3, _, rfl, SqT.of (s2 _ _ hp3), rfl, _, _, rfl, _, _, rfl, rfl, rfl, rfl, s2⟩
  obtain ⟨rfl, t1⟩ := hM
  have t01 := t0.trans t1
  -- where it is 0
  refine ⟨fun σ H' => σ = [some (.ref p1), some (.ref p2), some (.ref p3), some (.int a), some (.int u), some (.int b), some (.int v), some (.int c), some (.int w), none, none] ∧ H' = H2 ∧ JoinP a b c u v w, ?_, fun σ H2' hM => ?_⟩
  · have nought : ∀ (nj : ¬ JoinP a b c u v w) x H3, Same H2 H3 → H2 x = none → NumAt C H3 x (exL 0 1 1) → Q (.ref x) H3 := fun nj x H3 s3 hx hN => by
      rw [exL_one, show oneL 1 0 1 = [] from if_pos rfl] at hN
      refine q x H3 (t01.trans s3) ?_
      unfold joinL
      rw [if_neg nj]
      exact hN
    refine ⟨_, rfl, _, rfl, _, rfl, a, b, c, rfl, _, rfl, ?_⟩
    cases ec : canB a b c with
    | false => exact iteT (iteT ⟨0, 1, 1, 40, rfl, by decide, by decide, by decide, by decide, root_ok1, nought fun z => by rw [z.1] at ec; cases ec⟩)
    | true =>
      refine iteF ⟨_, rfl, _, rfl, u, v, rfl, rfl, _, rfl, rfl, _, rfl, ?_⟩
      by_cases e2 : u + v = w
      · exact iteNS (congrArg V.int e2) ⟨rfl, rfl, ec, e2⟩
      · exact iteNT (ine e2) ⟨0, 1, 1, 40, rfl, by decide, by decide, by decide, by decide, root_ok1, nought fun z => e2 z.2⟩
  obtain ⟨rfl, eH, J⟩ := hM
  subst eH
  obtain ⟨k1, k2, k3, k4⟩ := canB_iff.mp J.1
  have J2 := J.2
  obtain ⟨a0, a1, a2, a3, a4⟩ := id P1
  obtain ⟨b0, b1, b2, b3, b4⟩ := id P2
  obtain ⟨c0, c1, c2, c3, c4⟩ := id P3
  -- the top
  refine ⟨fun σ H3 => ∃ (d : Addr) (ks : List Int) (ad : Int → Addr), σ = [some (.ref p1), some (.ref p2), some (.ref p3), some (.int a), some (.int u), some (.int b), some (.int v), some (.int c), some (.int w), some (.ref d), none] ∧ Same H2' H3 ∧ NumD C (LvP a b c c) H3 d ks ad ∧ (∀ x, -a ≤ x → c - b ≤ x → x ≤ a → (a - x) % 2 = 0 → x ∈ ks), ?_, fun σ H3 hM => ?_⟩
  · obtain ⟨p, r, n, ea, eb, ec⟩ : ∃ p r n : Nat, a = (p : Int) + n ∧ b = (r : Int) + n ∧ c = (p : Int) + r := ⟨((a + c - b) / 2).toNat, ((b + c - a) / 2).toNat, ((a + b - c) / 2).toNat, by omega, by omega, by omega⟩
    refine ⟨_, rfl, _, rfl, _, rfl, p, r, n, by rw [ea, eb, ec]; rfl, by omega, by omega, by omega, fun d ad H3 s3 hd hD => ?_⟩
    rw [← ea, ← eb, ← ec] at hD
    exact ⟨d, _, ad, rfl, s3, hD, fun x h1 h2 h3 h4 => List.mem_map.mpr ⟨((a - x) / 2).toNat, List.mem_range.mpr (by omega), by omega⟩⟩
  obtain ⟨d, ks, ad, rfl, t3, hD, hk⟩ := hM
  -- the steps down
  refine ⟨fun σ H4 => ∃ (d : Addr) (ks : List Int) (ad : Int → Addr) (v10 : Option V), σ = [some (.ref p1), some (.ref p2), some (.ref p3), some (.int a), some (.int u), some (.int b), some (.int v), some (.int c), some (.int w), some (.ref d), v10] ∧ Same H2' H4 ∧ NumD C (LvP a b c w) H4 d ks ad ∧ u ∈ ks, ?_, fun σ H4 hM => ?_⟩
  · refine ⟨_, rfl, _, rfl, _, rfl, c, w, -2, ((c - w) / 2).toNat, rfl, ⟨by decide, by decide, smallD2 (n := ((c - w) / 2).toNat) (by omega) (by omega) (by omega) (by omega) (by omega), sizeD2 (by omega)⟩, ?_⟩
    refine for_rangeC (lo := c) (c := -2) (n := ((c - w) / 2).toNat) (fun i σ G => ∃ (d : Addr) (ks : List Int) (ad : Int → Addr) (v10 : Option V), σ = [some (.ref p1), some (.ref p2), some (.ref p3), some (.int a), some (.int u), some (.int b), some (.int v), some (.int c), some (.int w), some (.ref d), v10] ∧ Same H2' G ∧ NumD C (LvP a b c (c - 2 * (i : Nat))) G d ks ad ∧
        (∀ x, u ≤ x → -a ≤ x → c - 2 * (i : Nat) - b ≤ x → x ≤ u + (c - 2 * (i : Nat)) - w → x ≤ a → x ≤ c - 2 * (i : Nat) + b → (a - x) % 2 = 0 → x ∈ ks))
      ⟨d, ks, ad, none, rfl, t3, by rw [show c - 2 * ((0 : Nat) : Int) = c by omega]; exact hD, fun x _ g2 g3 _ g5 _ g7 => hk x g2 (by omega) g5 g7⟩ (fun i σ G hi hP => ?_) (fun σ G hP => ?_)
    rotate_left
    · obtain ⟨d, ks, ad, v10, rfl, sG, hG, hk'⟩ := hP
      rw [show c - 2 * ((((c - w) / 2).toNat : Nat) : Int) = w by omega] at hG hk'
      exact ⟨d, ks, ad, v10, rfl, sG, hG, hk' u (by omega) (by omega) (by omega) (by omega) (by omega) (by omega) a4⟩
    obtain ⟨d, ks, ad, v10, rfl, sG, hG, hk'⟩ := hP
    have ew : c + ((i : Nat) : Int) * -2 = c - 2 * (i : Nat) := by omega
    rw [ew]
    have ei : c - 2 * ((i + 1 : Nat) : Int) = c - 2 * (i : Nat) - 2 := by omega
    refine ⟨_, rfl, _, rfl, _, rfl, _, rfl, by show 3 ≤ sizeLine; decide, fun y hy => ?_⟩
    have sy := same_upd (o := .tup [.int a, .int b, .int c]) hy
    refine ⟨_, rfl, _, rfl, _, rfl, _, rfl, _, _, rfl, rfl, _, _, rfl, rfl, _, rfl, _, _, rfl, rfl, by show 2 ≤ sizeLine; decide, fun z hz => ?_⟩
    have sz := same_upd (o := .tup [.int u, .int (u + (c - 2 * (i : Nat)) - 2 - w)]) hz
    refine ⟨d, y, z, a, b, c, c - 2 * (i : Nat), u, u + (c - 2 * (i : Nat)) - 2 - w, ks, ad, rfl, sz _ _ upd_same, upd_same, a0, a1, b0, b1, c0, c1, J.1, by omega, by omega, by omega, a4, by omega, by omega, by omega, by omega, (hG.same sy).same sz, fun x g1 g2 g3 g4 g5 g6 g7 => ⟨fun g8 => hk' _ (by omega) (by omega) (by omega) (by omega) (by omega) (by omega) (by omega), fun g8 => hk' _ (by omega) (by omega) (by omega) (by omega) (by omega) (by omega) (by omega)⟩, fun d' ks'' ad'' H5 s5 hd5 hD5 hk5 => ?_⟩
    rw [ei]
    exact ⟨d', ks'', ad'', _, rfl, ((sG.trans sy).trans sz).trans s5, hD5, fun x g1 g2 g3 g4 g5 g6 g7 => hk5 x g1 g2 (by omega) (by omega) g5 (by omega) g7⟩
  obtain ⟨d, ks, ad, v10, rfl, t4, hD4, hu4⟩ := hM
  obtain ⟨L, hL, lv⟩ := hD4.v u hu4
  refine ⟨_, rfl, _, rfl, d, _, rfl, dget_in hD4.at_ (kvI_val hu4), ?_⟩
  have eL : L = joinL a u b v c w := by
    unfold LvP at lv
    rw [show w - u = v by omega] at lv
    exact lv.1.uniq (su_joined P1 P2 P3 J)
  rw [eL] at hL
  exact q _ _ (t01.trans t4) hL
end
end TC
namespace TC
set_option exponentiation.threshold 20000
open PySem PySem.Spec PyProof.Rows L2 TCA TCX
def nineL (a u b v c w : Int) : List Int := [a + b - c, a - b + c, b - a + c, a + u, a - u, b + v, b - v, c + w, c - w]
def upN (a u b v c w : Int) : Nat := foldF (fun x => (x / 2).toNat) (c + 1).toNat (nineL a u b v c w)
def underN (a b c : Int) : Nat := factN ((a + b + c) / 2 + 1).toNat
theorem up_under {a u b v c w : Int} (h1 : PairP a u) (h2 : PairP b v) (h3 : PairP c w) (J : JoinP a b c u v w) : upN a u b v c w * prodF (jBe a b c) = underN a b c * prodF (jAb a u b v c w) * (jCom a u b v c * jCom a u b v c) := by
  rw [com_eq h1 h2 h3 J]
  have c0 := h3.t0
  have e1 : factN (c + 1).toNat = (c + 1).toNat * factN c.toNat := by
    rw [show (c + 1).toNat = c.toNat + 1 by omega]
    rfl
  show (c + 1).toNat * factN ((a + b - c) / 2).toNat * factN ((a - b + c) / 2).toNat * factN ((b - a + c) / 2).toNat * factN ((a + u) / 2).toNat * factN ((a - u) / 2).toNat * factN ((b + v) / 2).toNat * factN ((b - v) / 2).toNat * factN ((c + w) / 2).toNat * factN ((c - w) / 2).toNat * (factN c.toNat * (factN ((a + b + c) / 2 + 1).toNat * (factN ((a + b - c) / 2).toNat * (factN ((a - b + c) / 2).toNat * (factN ((b - a + c) / 2).toNat * 1))))) =
    factN ((a + b + c) / 2 + 1).toNat * (factN (c + 1).toNat * (factN ((a + u) / 2).toNat * (factN ((a - u) / 2).toNat * (factN ((b + v) / 2).toNat * (factN ((b - v) / 2).toNat * (factN ((c + w) / 2).toNat * (factN ((c - w) / 2).toNat * 1))))))) * (factN ((a + b - c) / 2).toNat * factN ((a - b + c) / 2).toNat * factN ((b - a + c) / 2).toNat * (factN ((a + b - c) / 2).toNat * factN ((a - b + c) / 2).toNat * factN ((b - a + c) / 2).toNat))
  rw [e1]
  generalize factN ((a + b - c) / 2).toNat = x1
  generalize factN ((a - b + c) / 2).toNat = x2
  generalize factN ((b - a + c) / 2).toNat = x3
  generalize factN ((a + u) / 2).toNat = x4
  generalize factN ((a - u) / 2).toNat = x5
  generalize factN ((b + v) / 2).toNat = x6
  generalize factN ((b - v) / 2).toNat = x7
  generalize factN ((c + w) / 2).toNat = x8
  generalize factN ((c - w) / 2).toNat = x9
  generalize factN ((a + b + c) / 2 + 1).toNat = x10
  generalize factN c.toNat = x11
  generalize (c + 1).toNat = x12
  simp only [Nat.mul_one, Nat.mul_assoc, Nat.mul_left_comm, Nat.mul_comm]
theorem nine_lt {a u b v c w : Int} (h1 : PairP a u) (h2 : PairP b v) (h3 : PairP c w) (J : JoinP a b c u v w) : ∀ x ∈ nineL a u b v c w, 0 ≤ x ∧ (x / 2).toNat < 62 := by
  obtain ⟨a0, a1, a2, a3, a4⟩ := h1
  obtain ⟨b0, b1, b2, b3, b4⟩ := h2
  obtain ⟨c0, c1, c2, c3, c4⟩ := h3
  obtain ⟨k1, k2, k3, k4⟩ := canB_iff.mp J.1
  intro x hx
  unfold nineL at hx
  simp only [List.mem_cons, List.not_mem_nil, or_false] at hx
  omega
theorem up_lt {a u b v c w : Int} (h1 : PairP a u) (h2 : PairP b v) (h3 : PairP c w) (J : JoinP a b c u v w) (i : Nat) : foldF (fun x => (x / 2).toNat) (c + 1).toNat ((nineL a u b v c w).take i) < 2 ^ 2600 := by
  have c1 := h3.t1
  refine Nat.lt_of_lt_of_le (foldF_lt (B := 6) (fun x hx => (nine_lt h1 h2 h3 J x (List.mem_of_mem_take hx)).2) (by omega)) (Nat.pow_le_pow_right (by decide) ?_)
  have : ((nineL a u b v c w).take i).length ≤ 9 := by
    rw [List.length_take]
    exact Nat.min_le_right ..
  omega
theorem foldF_pos {g : Int → Nat} : ∀ {l : List Int} {m : Nat}, 0 < m → 0 < foldF g m l
  | [], _, h => h
  | x :: l, m, h => foldF_pos (l := l) (Nat.mul_pos h (fact_pos _))
/-- the law's answer and the program's are one -/
theorem two_val {a u b v c w : Int} (h1 : PairP a u) (h2 : PairP b v) (h3 : PairP c w) (J : JoinP a b c u v w) {sq fr : Nat} (hN : upN a u b v c w * underN a b c = sq * sq * fr) (hf : SqF fr) {q : Rat} (hq : q = Rat.divInt (jSum a u b v c) ((jCom a u b v c : Nat) : Int)) (r : Int) :
    (if r = (fr : Int) then Rat.divInt (sq : Int) ((underN a b c : Nat) : Int) else 0) * Rat.divInt q.num (q.den : Int) = TCR.val (joinL a u b v c w) r := by
  have la := jAb_lt h1 h2 h3
  have lb := jBe_lt h1 h2 h3
  have u0 : 0 < underN a b c := fact_pos _
  have c0 : 0 < jCom a u b v c := comK_pos _ _ _ _ _
  obtain ⟨e1, e2⟩ := root_two (fun n hn => by have := la n hn; omega) (fun n hn => by have := lb n hn; omega) u0 c0 (up_under h1 h2 h3 J) hN hf
  have e3 := both_one (W := jSum a u b v c) (botE_pos (jAb a u b v c w) (jBe a b c)) u0 c0 e2
  unfold joinL
  rw [if_pos J, val_oneQ, e1, e3, Rat.num_divInt_den, hq]
  by_cases h : r = (fr : Int)
  · rw [if_pos h, if_pos h]
  · rw [if_neg h, if_neg h, Rat.zero_mul]
section
variable {P : Program} {w : World} {K : PySem.W.Frag} {mg : Str → Option Value} {base : Heap} {f : Addr} {fd : FuncData} {C fI fQ : Addr}
/-! ### _law_two -/
def spTwo : Sp := fun vs H Q _ => ∃ a u b v c w : Int, vs = [.int a, .int u, .int b, .int v, .int c, .int w] ∧ PairP a u ∧ PairP b v ∧ PairP c w ∧
  ∀ (d : Addr) (ks : List Int) H', Same H H' → DictAt H' d ks (TCR.val (joinL a u b v c w)) → Clear ks (TCR.val (joinL a u b v c w)) → ks.length ≤ 1 → Q (.ref d) H'
abbrev nTwo : List Str := ["_law_a", "_law_u", "_law_b", "_law_v", "_law_c", "_law_w", "_law_up", "_law_under", "_law_n", "_law_total", "_law_k", "_law_some", "_law_low_here"]
theorem scTwo : FnScope nTwo ["_law_a", "_law_u", "_law_b", "_law_v", "_law_c", "_law_w"] (defScope sTwo) := ⟨rfl, rfl, rfl, by decide +kernel, rfl, by decide +kernel, by decide +kernel⟩
set_option maxHeartbeats 0 in
theorem ok_two {fF fL fR fB : Addr} {fdF fdL fdR fdB : FuncData} (F : FnP K "_law_two" sTwo f fd) (GF : FnOk P w K mg base CX0 1 fF fdF ["_law_n"] spFactL) (bF : L2.Binds K fdF ["_law_n"] []) (kF : PySem.W.keepIn K (.ref fF) = true) (gF : mg "_law_factorial" = some (.ref fF))
    (GL : FnOk P w K mg base CX0 1 fL fdL ["_law_up", "_law_under"] spLowL) (bL : L2.Binds K fdL ["_law_up", "_law_under"] []) (kL : PySem.W.keepIn K (.ref fL) = true) (gL : mg "_law_low" = some (.ref fL))
    (GR : FnOk P w K mg base CX0 2 fR fdR ["_law_up", "_law_under"] spRooted) (bR : L2.Binds K fdR ["_law_up", "_law_under"] []) (kR : PySem.W.keepIn K (.ref fR) = true) (gR : mg "_law_rooted" = some (.ref fR))
    (GB : FnOk P w K mg base CX0 2 fB fdB ["_law_one", "_law_up", "_law_under"] spBy) (bB : L2.Binds K fdB ["_law_one", "_law_up", "_law_under"] []) (kB : PySem.W.keepIn K (.ref fB) = true) (gB : mg "_law_by" = some (.ref fB))
    (gabs : mg "abs" = none) (gmin : mg "min" = none) (grange : mg "range" = none) : FnOk P w K mg base CX0 3 f fd ["_law_a", "_law_u", "_law_b", "_law_v", "_law_c", "_law_w"] spTwo := by
  refine F.ok scTwo (fun vs H Q E h => ?_) (fun cdv Ar outer s H vs Q E' hr h => ?_)
  · obtain ⟨_, _, _, _, _, _, rfl, _⟩ := h
    rfl
  obtain ⟨a, u, b, v, c, w, rfl, P1, P2, P3, q⟩ := h
  have hr1 := hr.mono (j := 1) (by decide)
  have hr2 := hr.mono (j := 2) (by decide)
  refine ⟨_, PSs.nox (C8.pss_cut (ps_if (PW.pt (pw_or (pt_cmpR op_eq (pe_op op_mod (pe_op op_add (pe_op op_add (pv 0) (pv 2)) (pv 4)) pe_int) pe_int (nomark _)) (pw_or (pt_cmpR op_gt (pv 4) (pe_op op_add (pv 0) (pv 2)) (nomark _)) (pw_or (pt_cmpR op_lt (pv 4) (pe_callB call_abs (by rfl) gabs (by decide +kernel) (pa_cons (pe_op op_sub (pv 0) (pv 2)) pa_nil)) (nomark _)) (pw_or1 (pt_cmpR op_ne (pe_op op_add (pv 1) (pv 3)) (pv 5) (nomark _))))))) (pss_one (ps_ret pe_dnewK)) pss_nil)
      (C8.pss_cut (ps_par (i := 6) (j := 7) (by rfl) scTwo.nd rfl rfl (by decide) rfl rfl (pa_cons (pe_op op_add (pv 4) pe_int) (pa_cons (pe_call GF hr1 (by rfl) gF kF bF .nil pass0 (pa_cons (pe_op op_add (pe_op op_fdiv (pe_op op_add (pe_op op_add (pv 0) (pv 2)) (pv 4)) pe_int) pe_int) pa_nil)) pa_nil)) (by rfl))
      (C8.pss_cut (ps_for PassesOwn.never rfl (pi_tup (pe_tup (pa_cons (pe_op op_sub (pe_op op_add (pv 0) (pv 2)) (pv 4)) (pa_cons (pe_op op_add (pe_op op_sub (pv 0) (pv 2)) (pv 4)) (pa_cons (pe_op op_add (pe_op op_sub (pv 2) (pv 0)) (pv 4)) (pa_cons (pe_op op_add (pv 0) (pv 1)) (pa_cons (pe_op op_sub (pv 0) (pv 1)) (pa_cons (pe_op op_add (pv 2) (pv 3)) (pa_cons (pe_op op_sub (pv 2) (pv 3)) (pa_cons (pe_op op_add (pv 4) (pv 5)) (pa_cons (pe_op op_sub (pv 4) (pv 5)) pa_nil))))))))))) (pg_name (i := 8) scTwo.nd rfl (.inl rfl))
        (pss_one (ps_set (i := 6) scTwo.nd rfl (.inl rfl) (pe_op op_mulW (pv 6) (pe_call GF hr1 (by rfl) gF kF bF .nil pass0 (pa_cons (pe_op op_fdiv (pv 8) pe_int) pa_nil))))))
      (C8.pss_cut (ps_set (i := 9) scTwo.nd rfl (.inl rfl) (pe_tup (pa_cons pe_int (pa_cons pe_int pa_nil))))
      (C8.pss_cut (ps_for PassesOwn.never rfl (pi_range1 (by rfl) grange (pa_cons (pe_op op_add (pe_op op_fdiv (pe_op op_sub (pe_op op_add (pv 0) (pv 2)) (pv 4)) pe_int) pe_int) pa_nil)) (pg_name (i := 10) scTwo.nd rfl (.inl rfl))
        (pss_cons (ps_set (i := 11) scTwo.nd rfl (.inl rfl) (pe_lst (pa_cons (pv 10) (pa_cons (pe_op op_sub (pe_op op_fdiv (pe_op op_sub (pe_op op_add (pv 0) (pv 2)) (pv 4)) pe_int) (pv 10)) (pa_cons (pe_op op_sub (pe_op op_fdiv (pe_op op_sub (pv 0) (pv 1)) pe_int) (pv 10)) (pa_cons (pe_op op_sub (pe_op op_fdiv (pe_op op_add (pv 2) (pv 3)) pe_int) (pv 10)) pa_nil))))))
      (C8.pss_cut (ps_set (i := 11) scTwo.nd rfl (.inl rfl) (pe_op op_cat (pv 11) (pe_lst (pa_cons (pe_op op_add (pe_op op_fdiv (pe_op op_add (pe_op op_sub (pv 4) (pv 2)) (pv 1)) pe_int) (pv 10)) (pa_cons (pe_op op_add (pe_op op_fdiv (pe_op op_sub (pe_op op_sub (pv 4) (pv 0)) (pv 3)) pe_int) (pv 10)) pa_nil)))))
      (pss_one (ps_if (pt_cmpR op_ge (pe_callB (cr_min rfl) (by rfl) gmin (by decide +kernel) (pa_cons (pv 11) pa_nil)) pe_int (nomark _)) (pss_cons (ps_set (i := 12) scTwo.nd rfl (.inl rfl) pe_int)
      (C8.pss_cut (ps_for PassesOwn.never rfl (pi_list (pv 11)) (pg_name (i := 8) scTwo.nd rfl (.inl rfl))
        (pss_one (ps_set (i := 12) scTwo.nd rfl (.inl rfl) (pe_op op_mulW (pv 12) (pe_call GF hr1 (by rfl) gF kF bF .nil pass0 (pa_cons (pv 8) pa_nil))))))
      (pss_one (ps_set (i := 9) scTwo.nd rfl (.inl rfl) (pe_call GL hr1 (by rfl) gL kL bL .nil pass0 (pa_cons (pe_op op_add (pe_op op_mulW (pe_ix ix_tup (pv 9) pe_int (fun _ _ => rfl)) (pv 12)) (pe_op op_mulW (pe_ix ix_tup (pv 9) pe_int (fun _ _ => rfl)) (pe_ix ix_list (pe_lst (pa_cons pe_int (pa_cons (pe_un un_neg pe_int) pa_nil))) (pe_op op_mod (pv 10) pe_int) (fun _ _ => rfl)))) (pa_cons (pe_op op_mulW (pe_ix ix_tup (pv 9) pe_int (fun _ _ => rfl)) (pv 12)) pa_nil))))))) pss_nil)))))
      (pss_one (ps_ret (pe_call GB hr2 (by rfl) gB kB bB .nil pass0 (pa_cons (pe_call GR hr2 (by rfl) gR kR bR .nil pass0 (pa_cons (pv 6) (pa_cons (pv 7) pa_nil))) (pa_cons (pe_ix ix_tup (pv 9) pe_int (fun _ _ => rfl)) (pa_cons (pe_ix ix_tup (pv 9) pe_int (fun _ _ => rfl)) pa_nil))))))))))), ?_⟩
  have d2 : ∀ z : Int, CDiv z 2 := fun _ => ⟨by decide, by decide⟩
  -- where it is 0
  refine ⟨fun σ H' => σ = [some (.int a), some (.int u), some (.int b), some (.int v), some (.int c), some (.int w), none, none, none, none, none, none, none] ∧ H' = H ∧ JoinP a b c u v w, ?_, fun σ H1 hM => ?_⟩
  · have nought : ¬ JoinP a b c u v w → ∀ d, H d = none → Q (.ref d) (upd H d (.dK [])) := fun nj d hd => by
      have e : joinL a u b v c w = [] := if_neg nj
      refine q d [] _ (same_upd hd) ?_ (fun r hr => by cases hr) (Nat.zero_le _)
      exact ⟨[], upd_same, rfl, (fun r hr => by cases hr), List.nodup_nil, fun r _ => by rw [e]; rfl⟩
    refine ⟨_, rfl, _, rfl, a, b, rfl, rfl, _, rfl, a + b, c, rfl, rfl, a + b + c, 2, rfl, rfl, (by show (0 : Int) < 2; decide), rfl, _, rfl, ?_⟩
    rw [dec_int]
    by_cases e1 : (a + b + c) % 2 = 1
    · exact iteD1 e1 (iteT (nought fun z => by have := canB_iff.mp z.1; omega))
    refine iteD0 e1 ?_
    refine ⟨_, rfl, _, rfl, _, rfl, a, b, rfl, rfl, c, a + b, rfl, rfl, _, rfl, ?_⟩
    by_cases e2 : c > a + b
    · exact iteD1 e2 (iteT (nought fun z => by have := canB_iff.mp z.1; omega))
    refine iteD0 e2 ?_
    refine ⟨_, rfl, _, rfl, _, rfl, a, b, rfl, rfl, a - b, rfl, c, _, rfl, rfl, _, rfl, ?_⟩
    by_cases e3 : c < (if a - b < 0 then -(a - b) else a - b)
    · refine iteD1 e3 (iteT (nought fun z => ?_))
      have := canB_iff.mp z.1
      split at e3 <;> omega
    refine iteD0 e3 ?_
    refine ⟨_, rfl, _, rfl, u, v, rfl, rfl, _, rfl, rfl, _, rfl, ?_⟩
    by_cases e4 : u + v = w
    · refine iteNS (congrArg V.int e4) ⟨rfl, rfl, canB_iff.mpr ?_, e4⟩
      split at e3 <;> omega
    · exact iteNT (ine e4) (nought fun z => e4 z.2)
  obtain ⟨rfl, eH1, J⟩ := hM
  replace eH1 := eH1.symm
  subst eH1
  have T := tmp_of P1 P2 P3 J
  have bnd : 0 ≤ a ∧ a ≤ 40 ∧ 0 ≤ b ∧ b ≤ 40 ∧ 0 ≤ c ∧ c ≤ 40 := ⟨P1.t0, P1.t1, P2.t0, P2.t1, P3.t0, P3.t1⟩
  obtain ⟨b1, b2, b3, b4, b5, b6⟩ := bnd
  -- up, under
  refine ⟨fun σ H' => σ = [some (.int a), some (.int u), some (.int b), some (.int v), some (.int c), some (.int w), some (.int (((c + 1).toNat : Nat) : Int)), some (.int ((underN a b c : Nat) : Int)), none, none, none, none, none] ∧ H' = H, ?_, fun σ H1 hM => ?_⟩
  · have e1 : (((c + 1).toNat : Nat) : Int) = c + 1 := by omega
    refine ⟨_, rfl, c, 1, rfl, rfl, _, rfl, _, rfl, a, b, rfl, rfl, _, rfl, a + b, c, rfl, rfl, a + b + c, 2, rfl, rfl, d2 _, (a + b + c) / 2, 1, rfl, rfl, ((a + b + c) / 2 + 1).toNat, congrArg (fun z => [V.int z]) (by omega), by omega, _, _, rfl, ?_, rfl⟩
    rw [e1]
    rfl
  obtain ⟨rfl, eH1⟩ := hM
  replace eH1 := eH1.symm
  subst eH1
  have n9 := nine_lt P1 P2 P3 J
  -- the nine factorials
  refine ⟨fun σ H' => ∃ v8 : Option V, σ = [some (.int a), some (.int u), some (.int b), some (.int v), some (.int c), some (.int w), some (.int ((upN a u b v c w : Nat) : Int)), some (.int ((underN a b c : Nat) : Int)), v8, none, none, none, none] ∧ Same H H', ?_, fun σ H2 hM => ?_⟩
  · refine ⟨_, rfl, _, rfl, a, b, rfl, rfl, _, rfl, a + b, c, rfl, rfl, _, rfl, _, rfl, a, b, rfl, rfl, _, rfl, a - b, c, rfl, rfl, _, rfl, _, rfl, b, a, rfl, rfl, _, rfl, b - a, c, rfl, rfl, _, rfl, _, rfl, a, u, rfl, rfl, _, rfl, _, rfl, a, u, rfl, rfl, _, rfl, _, rfl, b, v, rfl, rfl, _, rfl, _, rfl, b, v, rfl, rfl, _, rfl, _, rfl, c, w, rfl, rfl, _, rfl, _, rfl, c, w, rfl, rfl, by show 9 ≤ sizeLine; decide, fun t ht => ?_⟩
    have s2 := same_upd (o := .tup ((nineL a u b v c w).map V.int)) ht
    refine ⟨t, rfl, ⟨_, SqT.of upd_same⟩, for_tup (xs := (nineL a u b v c w).map V.int) (fun i σ H' => ∃ v8 : Option V, σ = [some (.int a), some (.int u), some (.int b), some (.int v), some (.int c), some (.int w), some (.int ((foldF (fun x => (x / 2).toNat) (c + 1).toNat ((nineL a u b v c w).take i) : Nat) : Int)), some (.int ((underN a b c : Nat) : Int)), v8, none, none, none, none] ∧ H' = upd H t (.tup ((nineL a u b v c w).map V.int))) ⟨none, rfl, rfl⟩ (fun i σ H' _ hP => ?_) (fun i x σ H' hx hP => ?_) (fun σ H' hP => ?_)⟩
    · obtain ⟨_, _, rfl⟩ := hP
      exact SqT.of upd_same
    · obtain ⟨v8, rfl, rfl⟩ := hP
      obtain ⟨n, hn, rfl⟩ := ints_at hx
      obtain ⟨n0, n1⟩ := n9 n (List.mem_of_getElem? hn)
      have ul := up_lt P1 P2 P3 J i
      refine ⟨_, rfl, _, rfl, n, 2, rfl, rfl, d2 _, (n / 2).toNat, congrArg (fun z => [V.int z]) (by omega), by omega, _, _, rfl, rfl, cmulw (nat_bits ul) (nat_bits (fact_lt _ n1)) (by decide) (by decide) (by decide), some (.int n), ?_, rfl⟩
      rw [take_atI hn, foldF_snoc, Int.natCast_mul]
      rfl
    · obtain ⟨v8, rfl, rfl⟩ := hP
      exact ⟨v8, rfl, s2⟩
  obtain ⟨v8, rfl, s2⟩ := hM
  -- total
  refine ⟨fun σ H' => ∃ T0 : Addr, σ = [some (.int a), some (.int u), some (.int b), some (.int v), some (.int c), some (.int w), some (.int ((upN a u b v c w : Nat) : Int)), some (.int ((underN a b c : Nat) : Int)), v8, some (.ref T0), none, none, none] ∧ Same H H' ∧ H' T0 = some (fraV 0), ?_, fun σ H3 hM => ?_⟩
  · exact ⟨by show 2 ≤ sizeLine; decide, fun T0 hT0 => ⟨T0, rfl, s2.trans (same_upd hT0), upd_same⟩⟩
  obtain ⟨T0, rfl, s3, hT0⟩ := hM
  have com0 : 0 < jCom a u b v c := comK_pos _ _ _ _ _
  have cl : jCom a u b v c < 2 ^ 840 := comK_lt (by have := T.lA; have := T.s1; omega) (by have := T.lD; have := T.s1; omega) (by have := T.lE; have := T.s1; omega)
  have sumb : ∀ k, k ≤ 100 → (sumK (jT a u b v c) k).natAbs < 2 ^ 900 := fun k hk => by
    refine Nat.lt_of_le_of_lt (sumK_le (f := jT a u b v c) (tmK_le _ _ _ _ _) k) ?_
    have y : k < 2 ^ 60 := Nat.lt_of_le_of_lt hk (by decide)
    have x := Nat.mul_lt_mul'' y cl
    rw [← Nat.pow_add] at x
    exact x
  have qn : ∀ k, k ≤ 100 → (Rat.divInt (sumK (jT a u b v c) k) ((jCom a u b v c : Nat) : Int)).num.natAbs < 2 ^ 900 := fun k hk => by
    have lo := (TCM.low_abs (sumK (jT a u b v c) k) ((jCom a u b v c : Nat) : Int) (by omega)).1
    rw [TCR.low_rat _ _ (by omega)] at lo
    exact Nat.lt_of_le_of_lt lo (sumb k hk)
  have qd : ∀ k, (Rat.divInt (sumK (jT a u b v c) k) ((jCom a u b v c : Nat) : Int)).den < 2 ^ 840 := fun k => Nat.lt_of_le_of_lt (Nat.le_of_dvd com0 (den_divInt com0)) cl
  have hA : (a + b - c) / 2 = (jA a b c : Int) := T.eA
  have hB : (a - u) / 2 = (jB a u : Int) := T.eB
  have hC : (b + v) / 2 = (jC b v : Int) := T.eC
  have hD : (c - b + u) / 2 = jD b u c := rfl
  have hE : (c - a - v) / 2 = jE a v c := rfl
  have lA := T.lA
  have lB := T.lB
  have lC := T.lC
  have lD := T.lD
  have lE := T.lE
  have S1 := T.s1
  refine ⟨fun σ H' => ∃ (v8 v10 v11 v12 : Option V) (T1 : Addr), σ = [some (.int a), some (.int u), some (.int b), some (.int v), some (.int c), some (.int w), some (.int ((upN a u b v c w : Nat) : Int)), some (.int ((underN a b c : Nat) : Int)), v8, some (.ref T1), v10, v11, v12] ∧ Same H H' ∧ H' T1 = some (fraV (Rat.divInt (jSum a u b v c) ((jCom a u b v c : Nat) : Int))), ?_, fun σ H4 hM => ?_⟩
  · refine ⟨_, rfl, _, rfl, a, b, rfl, rfl, _, rfl, a + b, c, rfl, rfl, a + b - c, 2, rfl, rfl, d2 _, (a + b - c) / 2, 1, rfl, rfl, (a + b - c) / 2 + 1, rfl, by omega, by omega, ?_⟩
    refine for_range (n := ((a + b - c) / 2 + 1).toNat) (fun k σ H' => ∃ (v8 v10 v11 v12 : Option V) (T1 : Addr), σ = [some (.int a), some (.int u), some (.int b), some (.int v), some (.int c), some (.int w), some (.int ((upN a u b v c w : Nat) : Int)), some (.int ((underN a b c : Nat) : Int)), v8, some (.ref T1), v10, v11, v12] ∧ Same H H' ∧ H' T1 = some (fraV (Rat.divInt (sumK (jT a u b v c) k) ((jCom a u b v c : Nat) : Int))))
      ⟨v8, none, none, none, T0, rfl, s3, by rw [show sumK (jT a u b v c) 0 = 0 from rfl, Rat.zero_divInt]; exact hT0⟩ (fun k σ H' hk hP => ?_) (fun σ H' hP => ?_)
    rotate_left
    · obtain ⟨v8, v10, v11, v12, T1, rfl, sm, hT1⟩ := hP
      refine ⟨v8, v10, v11, v12, T1, rfl, sm, ?_⟩
      rw [hT1, show ((a + b - c) / 2 + 1).toNat = jA a b c + 1 by omega]
      rfl
    obtain ⟨v8, v10, v11, v12, T1, rfl, sm, hT1⟩ := hP
    have kA : k ≤ jA a b c := by omega
    rw [Int.zero_add]
    refine ⟨_, rfl, _, rfl, _, rfl, a, b, rfl, rfl, _, rfl, a + b, c, rfl, rfl, a + b - c, 2, rfl, rfl, d2 _, _, rfl, (a + b - c) / 2, k, rfl, rfl, _, rfl, _, rfl, a, u, rfl, rfl, a - u, 2, rfl, rfl, d2 _, _, rfl, (a - u) / 2, k, rfl, rfl, _, rfl, _, rfl, b, v, rfl, rfl, b + v, 2, rfl, rfl, d2 _, _, rfl, (b + v) / 2, k, rfl, rfl, by show 4 ≤ sizeLine; decide, fun l1 hl1 => ?_⟩
    have s4 := same_upd (o := .lst [V.int (k : Int), V.int ((a + b - c) / 2 - k), V.int ((a - u) / 2 - k), V.int ((b + v) / 2 - k)]) hl1
    refine ⟨fun σ G => ∃ l3 : Addr, σ = [some (.int a), some (.int u), some (.int b), some (.int v), some (.int c), some (.int w), some (.int ((upN a u b v c w : Nat) : Int)), some (.int ((underN a b c : Nat) : Int)), v8, some (.ref T1), some (.int (k : Int)), some (.ref l3), v12] ∧ Same H' G ∧ G l3 = some (.lst ([(k : Int), (jA a b c : Int) - k, (jB a u : Int) - k, (jC b v : Int) - k, jD b u c + k, jE a v c + k].map V.int)), ?_, fun σ G hM => ?_⟩
    · refine ⟨_, rfl, _, rfl, _, rfl, c, b, rfl, rfl, _, rfl, c - b, u, rfl, rfl, c - b + u, 2, rfl, rfl, d2 _, _, rfl, (c - b + u) / 2, k, rfl, rfl, _, rfl, _, rfl, c, a, rfl, rfl, _, rfl, c - a, v, rfl, rfl, c - a - v, 2, rfl, rfl, d2 _, _, rfl, (c - a - v) / 2, k, rfl, rfl, by show 2 ≤ sizeLine; decide, fun l2 hl2 => ?_⟩
      have s5 := same_upd (o := .lst [V.int ((c - b + u) / 2 + k), V.int ((c - a - v) / 2 + k)]) hl2
      refine ⟨l1, l2, _, _, rfl, rfl, s5 _ _ upd_same, upd_same, by show 4 + 2 ≤ sizeLine; decide, fun l3 hl3 => ?_⟩
      refine ⟨l3, rfl, (s4.trans s5).trans (same_upd hl3), ?_⟩
      rw [upd_same, ← hA, ← hB, ← hC]
      rfl
    obtain ⟨l3, rfl, sG, hl3⟩ := hM
    have hTG := sG _ _ hT1
    have sHG := sm.trans sG
    refine ⟨_, rfl, l3, _, rfl, SqL.of hl3, by show 0 < 6; decide, fun m hm hmin => ?_⟩
    have m1 := hmin (k : Int) (by simp)
    have m2 := hmin ((jA a b c : Int) - k) (by simp)
    have m3 := hmin ((jB a u : Int) - k) (by simp)
    have m4 := hmin ((jC b v : Int) - k) (by simp)
    have m5 := hmin (jD b u c + k) (by simp)
    have m6 := hmin (jE a v c + k) (by simp)
    have mc : m = (k : Int) ∨ m = (jA a b c : Int) - k ∨ m = (jB a u : Int) - k ∨ m = (jC b v : Int) - k ∨ m = jD b u c + k ∨ m = jE a v c + k := by simpa using hm
    have ok : okK (jA a b c) (jB a u) (jC b v) (jD b u c) (jE a v c) k = true ↔ m ≥ 0 := by
      unfold okK
      rw [decide_eq_true_eq]
      omega
    refine ⟨m, 0, rfl, rfl, _, rfl, ?_⟩
    by_cases m0 : m ≥ 0
    rotate_left
    · refine iteD0 m0 ?_
      refine ⟨_, _, _, _, T1, rfl, sHG, ?_⟩
      have e : sumK (jT a u b v c) (k + 1) = sumK (jT a u b v c) k := total_skip fun z => m0 (ok.mp z)
      rw [e]
      exact hTG
    refine iteD1 m0 ?_
    have hk' := ok.mpr m0
    have bp := botK_pos (jA a b c) (jB a u) (jC b v) (jD b u c) (jE a v c) k
    have bd : botK (jA a b c) (jB a u) (jC b v) (jD b u c) (jE a v c) k < 2 ^ 840 := Nat.lt_of_le_of_lt (Nat.le_of_dvd com0 (botK_dvd hk')) cl
    refine ⟨fun σ G' => ∃ v8 : Option V, σ = [some (.int a), some (.int u), some (.int b), some (.int v), some (.int c), some (.int w), some (.int ((upN a u b v c w : Nat) : Int)), some (.int ((underN a b c : Nat) : Int)), v8, some (.ref T1), some (.int (k : Int)), some (.ref l3), some (.int ((botK (jA a b c) (jB a u) (jC b v) (jD b u c) (jE a v c) k : Nat) : Int))] ∧ G' = G, ?_, fun σ G' hM => ?_⟩
    · refine ⟨_, rfl, l3, rfl, ⟨_, SqL.of hl3⟩, for_list (xs := [(k : Int), (jA a b c : Int) - k, (jB a u : Int) - k, (jC b v : Int) - k, jD b u c + k, jE a v c + k].map V.int) (fun j σ G' => ∃ v8 : Option V, σ = [some (.int a), some (.int u), some (.int b), some (.int v), some (.int c), some (.int w), some (.int ((upN a u b v c w : Nat) : Int)), some (.int ((underN a b c : Nat) : Int)), v8, some (.ref T1), some (.int (k : Int)), some (.ref l3), some (.int ((foldF Int.toNat 1 ([(k : Int), (jA a b c : Int) - k, (jB a u : Int) - k, (jC b v : Int) - k, jD b u c + k, jE a v c + k].take j) : Nat) : Int))] ∧ G' = G) ⟨v8, rfl, rfl⟩ (fun j σ G' _ hP => ?_) (fun j x σ G' hx hP => ?_) (fun σ G' hP => ?_)⟩
      · obtain ⟨_, _, rfl⟩ := hP
        exact SqL.of hl3
      · obtain ⟨v8, rfl, rfl⟩ := hP
        obtain ⟨n, hn, rfl⟩ := ints_at hx
        have six : ∀ x ∈ [(k : Int), (jA a b c : Int) - k, (jB a u : Int) - k, (jC b v : Int) - k, jD b u c + k, jE a v c + k], 0 ≤ x ∧ x.toNat < 62 := fun x hx => by
          simp only [List.mem_cons, List.not_mem_nil, or_false] at hx
          omega
        obtain ⟨n0, n1⟩ := six n (List.mem_of_getElem? hn)
        have fl : foldF Int.toNat 1 ([(k : Int), (jA a b c : Int) - k, (jB a u : Int) - k, (jC b v : Int) - k, jD b u c + k, jE a v c + k].take j) < 2 ^ 2000 := by
          refine Nat.lt_of_lt_of_le (foldF_lt (B := 1) (fun x hx => (six x (List.mem_of_mem_take hx)).2) (by decide)) (Nat.pow_le_pow_right (by decide) ?_)
          have : ([(k : Int), (jA a b c : Int) - k, (jB a u : Int) - k, (jC b v : Int) - k, jD b u c + k, jE a v c + k].take j).length ≤ 6 := by
            rw [List.length_take]
            exact Nat.min_le_right ..
          omega
        refine ⟨_, rfl, _, rfl, n.toNat, congrArg (fun z => [V.int z]) (by omega), by omega, _, _, rfl, rfl, cmulw (nat_bits fl) (nat_bits (fact_lt _ n1)) (by decide) (by decide) (by decide), some (.int n), ?_, rfl⟩
        rw [take_atI hn, foldF_snoc, Int.natCast_mul]
        rfl
      · obtain ⟨v8, rfl, rfl⟩ := hP
        refine ⟨v8, ?_, rfl⟩
        have e : foldF Int.toNat 1 [(k : Int), (jA a b c : Int) - k, (jB a u : Int) - k, (jC b v : Int) - k, jD b u c + k, jE a v c + k] = botK (jA a b c) (jB a u) (jC b v) (jD b u c) (jE a v c) k := by
          show 1 * factN (k : Int).toNat * factN ((jA a b c : Int) - k).toNat * factN ((jB a u : Int) - k).toNat * factN ((jC b v : Int) - k).toNat * factN (jD b u c + k).toNat * factN (jE a v c + k).toNat = _
          unfold botK
          rw [Nat.one_mul, Int.toNat_natCast, show ((jA a b c : Int) - k).toNat = jA a b c - k by omega, show ((jB a u : Int) - k).toNat = jB a u - k by omega, show ((jC b v : Int) - k).toNat = jC b v - k by omega]
        rw [← e]
        rfl
    obtain ⟨w8, rfl, eG⟩ := hM
    replace eG := eG.symm
    subst eG
    obtain ⟨Q0, eQ⟩ : ∃ Q0 : Rat, Rat.divInt (sumK (jT a u b v c) k) ((jCom a u b v c : Nat) : Int) = Q0 := ⟨_, rfl⟩
    have zn : Q0.num.natAbs < 2 ^ 900 := by rw [← eQ]; exact qn k (by omega)
    have zd : ((Q0.den : Nat) : Int).natAbs < 2 ^ 840 := by rw [Int.natAbs_natCast, ← eQ]; exact qd k
    rw [eQ] at hTG
    refine ⟨_, rfl, T1, _, 0, _, rfl, rfl, SqT.of hTG, atI_nat (j := 0) rfl, _, rfl, Q0.num, _, rfl, rfl, cmulw zn (nat_bits bd) (by decide) (by decide) (by decide), _, rfl, T1, _, 1, _, rfl, rfl, SqT.of hTG, atI_nat (j := 1) rfl, 1, rfl, by show 2 ≤ sizeLine; decide, fun l4 hl4 => ?_⟩
    have s6 := same_upd (o := .lst [V.int 1, V.int (-1)]) hl4
    have hsg : atI [V.int 1, V.int (-1)] ((k : Int) % 2) = some (.int (sgK k)) := by
      unfold sgK
      by_cases z : k % 2 = 1
      · rw [if_pos z, show ((k : Int) % 2) = ((1 : Nat) : Int) by omega]
        exact atI_nat (j := 1) rfl
      · rw [if_neg z, show ((k : Int) % 2) = ((0 : Nat) : Int) by omega]
        exact atI_nat (j := 0) rfl
    have zs : (sgK k).natAbs < 2 ^ 2 := by
      unfold sgK
      split <;> decide
    refine ⟨_, rfl, (k : Int), 2, rfl, rfl, (by show (0 : Int) < 2; decide), l4, _, _, _, rfl, rfl, SqL.of upd_same, hsg, ((Q0.den : Nat) : Int), sgK k, rfl, rfl, cmulw zd zs (by decide) (by decide) (by decide), _, _, rfl, rfl, _, rfl, T1, _, 1, _, rfl, rfl, SqT.of (s6 _ _ hTG), atI_nat (j := 1) rfl, _, rfl, ((Q0.den : Nat) : Int), _, rfl, rfl, cmulw zd (nat_bits bd) (by decide) (by decide) (by decide), ?_⟩
    have d0 := Q0.den_pos
    have dne : ((Q0.den : Nat) : Int) * ((botK (jA a b c) (jB a u) (jC b v) (jD b u c) (jE a v c) k : Nat) : Int) ≠ 0 := Int.mul_ne_zero (by omega) (by omega)
    refine ⟨_, _, 840 + 840, rfl, dne, wide_lt zd (nat_bits bd), by decide, by decide, fun T2 hT2 => ?_⟩
    refine ⟨w8, some (.int (k : Int)), some (.ref l3), _, T2, rfl, (sHG.trans s6).trans (same_upd hT2), ?_⟩
    have ts := total_step (k := k) hk' (q := Q0) eQ.symm
    have e2 : Rat.divInt (Q0.num * ((botK (jA a b c) (jB a u) (jC b v) (jD b u c) (jE a v c) k : Nat) : Int) + ((Q0.den : Nat) : Int) * sgK k) (((Q0.den : Nat) : Int) * ((botK (jA a b c) (jB a u) (jC b v) (jD b u c) (jE a v c) k : Nat) : Int)) = Rat.divInt (sumK (jT a u b v c) (k + 1)) ((jCom a u b v c : Nat) : Int) := ts
    rw [upd_same]
    show some (HO.tup [.int (TCM.lowL (Q0.num * ((botK (jA a b c) (jB a u) (jC b v) (jD b u c) (jE a v c) k : Nat) : Int) + ((Q0.den : Nat) : Int) * sgK k) (((Q0.den : Nat) : Int) * ((botK (jA a b c) (jB a u) (jC b v) (jD b u c) (jE a v c) k : Nat) : Int))).1, .int (TCM.lowL (Q0.num * ((botK (jA a b c) (jB a u) (jC b v) (jD b u c) (jE a v c) k : Nat) : Int) + ((Q0.den : Nat) : Int) * sgK k) (((Q0.den : Nat) : Int) * ((botK (jA a b c) (jB a u) (jC b v) (jD b u c) (jE a v c) k : Nat) : Int))).2]) = _
    rw [TCR.lowL_rat _ _ dne, e2]
    rfl
  obtain ⟨x8, v10, v11, v12, T1, rfl, s4, hT1⟩ := hM
  obtain ⟨Q0, eQ⟩ : ∃ Q0 : Rat, Rat.divInt (jSum a u b v c) ((jCom a u b v c : Nat) : Int) = Q0 := ⟨_, rfl⟩
  have zn : Q0.num.natAbs < 2 ^ 900 := by rw [← eQ]; exact qn (jA a b c + 1) (by omega)
  have zd : ((Q0.den : Nat) : Int).natAbs < 2 ^ 840 := by rw [Int.natAbs_natCast, ← eQ]; exact qd (jA a b c + 1)
  rw [eQ] at hT1
  have ul : upN a u b v c w < 2 ^ 2600 := up_lt P1 P2 P3 J 9
  have up0 : 0 < upN a u b v c w := foldF_pos (by omega)
  have un0 : 0 < underN a b c := fact_pos _
  have unl : underN a b c < 2 ^ 280 := fact_lt _ (by omega)
  refine ⟨_, rfl, _, rfl, upN a u b v c w, underN a b c, rfl, up0, un0, Nat.lt_of_lt_of_le ul (Nat.pow_le_pow_right (by decide) (by decide)), Nat.lt_of_lt_of_le unl (Nat.pow_le_pow_right (by decide) (by decide)), fun sq fr d Td H5 _ hN hf hs s5 hd hTd => ?_⟩
  have hT5 := s5 _ _ hT1
  have d0 := Q0.den_pos
  have sql : sq < 2 ^ 3000 := by
    have z1 : upN a u b v c w * underN a b c < 2 ^ 3000 := by
      have z := Nat.mul_lt_mul'' ul unl
      rw [← Nat.pow_add] at z
      exact Nat.lt_of_lt_of_le z (Nat.pow_le_pow_right (by decide) (by decide))
    refine Nat.lt_of_le_of_lt (Nat.le_of_dvd (Nat.mul_pos up0 un0) ⟨sq * fr, by rw [hN, Nat.mul_assoc]⟩) z1
  have une : ((underN a b c : Nat) : Int) ≠ 0 := by omega
  have hdict : DictAt H5 d [(fr : Int)] (fun r => if r = (fr : Int) then Rat.divInt (sq : Int) ((underN a b c : Nat) : Int) else 0) := by
    refine ⟨_, hd, rfl, fun r hr => ?_, by simp, fun r hr => if_neg fun z => hr (List.mem_singleton.mpr z)⟩
    rw [List.mem_singleton.mp hr]
    refine ⟨Td, valV_pos rfl, ?_⟩
    rw [hTd, TCR.lowL_rat _ _ une]
    show _ = some (fraV (if (fr : Int) = (fr : Int) then Rat.divInt (sq : Int) ((underN a b c : Nat) : Int) else 0))
    rw [if_pos rfl]
    rfl
  have big : ∀ n, n < 2 ^ 900 → n < 2 ^ 3000 := fun n h => Nat.lt_of_lt_of_le h (Nat.pow_le_pow_right (by decide) (by decide))
  refine ⟨_, rfl, T1, _, 0, _, rfl, rfl, SqT.of hT5, atI_nat (j := 0) rfl, _, rfl, T1, _, 1, _, rfl, rfl, SqT.of hT5, atI_nat (j := 1) rfl, d, [(fr : Int)], _, Q0.num, ((Q0.den : Nat) : Int), 3000, rfl, hdict, fun r => ?_, by omega, big _ zn, Nat.lt_of_lt_of_le zd (Nat.pow_le_pow_right (by decide) (by decide)), by decide, by decide, by show 1 ≤ 60; decide, fun d' ks H6 s6 hd' hD cD lD' sub => ?_⟩
  · show TCR.Sz 3000 (if r = (fr : Int) then Rat.divInt (sq : Int) ((underN a b c : Nat) : Int) else 0)
    by_cases h : r = (fr : Int)
    · rw [if_pos h]
      exact TCR.Sz.divInt une (nat_bits sql) (Nat.lt_of_lt_of_le (nat_bits unl) (Nat.pow_le_pow_right (by decide) (by decide)))
    · rw [if_neg h]
      exact TCR.Sz.zero (by decide)
  have ev := two_val P1 P2 P3 J hN hf eQ.symm
  have ef : (fun r => (if r = (fr : Int) then Rat.divInt (sq : Int) ((underN a b c : Nat) : Int) else 0) * Rat.divInt Q0.num ((Q0.den : Nat) : Int)) = TCR.val (joinL a u b v c w) := funext ev
  have hD' : DictAt H6 d' ks (fun r => (if r = (fr : Int) then Rat.divInt (sq : Int) ((underN a b c : Nat) : Int) else 0) * Rat.divInt Q0.num ((Q0.den : Nat) : Int)) := hD
  have cD' : Clear ks (fun r => (if r = (fr : Int) then Rat.divInt (sq : Int) ((underN a b c : Nat) : Int) else 0) * Rat.divInt Q0.num ((Q0.den : Nat) : Int)) := cD
  rw [ef] at hD' cD'
  exact q d' ks H6 ((s4.trans s5).trans s6) hD' cD' lD'
end
end TC
namespace TC
set_option exponentiation.threshold 20000
open PySem PySem.Spec PyProof.Rows L2 TCA TCX
/-! ### two numbers compared -/
def rEqN (C : Addr) : R2 := fun x y H Q => ∃ a b L M, x = .ref a ∧ y = .ref b ∧ NumAt C H a L ∧ NumAt C H b M ∧ Q (.bl (decide (L = M))) H
theorem op_eqN {X : Cx} {C fI fQ : Addr} {fdQ : FuncData} (T : TxtN X.K X.mg C fI fQ) (GQ : FnOk X.prog X.w X.K X.mg X.base CX0 1 fQ fdQ ["self", "other"] (spEqN C)) (bQ : L2.Binds X.K fdQ ["self", "other"] []) (hr : Room 1 X.A) : OpR X (compareOp .Eq) (rEqN C) := by
  intro pins s σ H x y v u Q I rx ry h
  obtain ⟨a, b, L, M, rfl, rfl, ha, hb, q⟩ := h
  obtain ⟨dx, p, h1, _⟩ := id ha
  obtain ⟨dy, p', h2, _⟩ := id hb
  exact op_eqO (E := fun _ _ _ => False) GQ T.mq.at_ T.mq.fn bQ pass0 hr pins s σ H _ _ v u Q I rx ry ⟨a, dx, _, _, rfl, h1, T.ty h2, by unfold PySem.W.notFirst; simp, a, b, L, M, rfl, ha, hb, _, rfl, q⟩
section
variable {P : Program} {w : World} {K : PySem.W.Frag} {mg : Str → Option Value} {base : Heap} {f : Addr} {fd : FuncData} {C fI fQ : Addr}
/-! ### _law_ladder_right -/
def spLadR : Sp := fun vs H Q _ => ∃ (p1 p2 p3 : Addr) (a u b v c w : Int), vs = [.ref p1, .ref p2, .ref p3] ∧ H p1 = some (pairO (a, u)) ∧ H p2 = some (pairO (b, v)) ∧ H p3 = some (pairO (c, w)) ∧ PairP a u ∧ PairP b v ∧ PairP c w ∧ ∀ H', Same H H' → Q (.bl true) H'
abbrev nLadL : List Str := ["_law_one", "_law_other", "_law_third_here", "_law_due"]
theorem scLadL : FnScope nLadL ["_law_one", "_law_other", "_law_third_here"] (defScope sLadL) := ⟨rfl, rfl, rfl, by decide +kernel, rfl, by decide +kernel, by decide +kernel⟩
theorem ok_ladR {fTw fI' fL fJo : Addr} {fdTw fdI' fdL fdJo fdQ : FuncData} (F : FnP K "_law_ladder_right" sLadL f fd) (T : TxtN K mg C fI fQ)
    (GTw : FnOk P w K mg base CX0 3 fTw fdTw ["_law_a", "_law_u", "_law_b", "_law_v", "_law_c", "_law_w"] spTwo) (bTw : L2.Binds K fdTw ["_law_a", "_law_u", "_law_b", "_law_v", "_law_c", "_law_w"] []) (kTw : PySem.W.keepIn K (.ref fTw) = true) (gTw : mg "_law_two" = some (.ref fTw))
    (GI : FnG P w K mg base CX0 2 fI' fdI' ["_law_number", "_law_due"] (spIs C)) (bI : L2.Binds K fdI' ["_law_number", "_law_due"] []) (kI : PySem.W.keepIn K (.ref fI') = true) (gI : mg "_law_is" = some (.ref fI'))
    (FL : FnP K "ladder" sLadder fL fdL) (GL : FnOk P w K mg base CX0 6 fL fdL ["one", "other", "to"] (spLadder C)) (gL : mg "ladder" = some (.ref fL))
    (FJo : FnP K "joined" sJoined fJo fdJo) (GJo : FnOk P w K mg base CX0 6 fJo fdJo ["one", "other", "to"] (spJoined C)) (gJo : mg "joined" = some (.ref fJo))
    (GQ : FnOk P w K mg base CX0 1 fQ fdQ ["self", "other"] (spEqN C)) (bQ : L2.Binds K fdQ ["self", "other"] []) :
    FnG P w K mg base CX0 7 f fd ["_law_one", "_law_other", "_law_third_here"] spLadR := by
  have kbL : KBn K fdL ["one", "other", "to"] 2 ["to"] (fun us ws => us ++ ws) (fun vs zs => vs ++ zs) := kbindsN FL 2 ["to"] (fun _ _ _ _ _ _ us ws h1 h2 => match us, ws, h1, h2 with
    | [_, _], [_], _, _ => rfl)
  have kbJ : KBn K fdJo ["one", "other", "to"] 2 ["to"] (fun us ws => us ++ ws) (fun vs zs => vs ++ zs) := kbindsN FJo 2 ["to"] (fun _ _ _ _ _ _ us ws h1 h2 => match us, ws, h1, h2 with
    | [_, _], [_], _, _ => rfl)
  refine okG F scLadL (fun vs H Q E h => ?_) (fun cdv A outer s H vs Q E hG hr h => ?_)
  · obtain ⟨_, _, _, _, _, _, _, _, _, rfl, _⟩ := h
    rfl
  obtain ⟨p1, p2, p3, a, u, b, v, c, w, rfl, hp1, hp2, hp3, P1, P2, P3, q⟩ := h
  have hr1 := hr.mono (j := 1) (by decide)
  have hr2 := hr.mono (j := 2) (by decide)
  have hr3 := hr.mono (j := 3) (by decide)
  refine ⟨_, PSs.nox (C8.pss_cut (ps_set (i := 3) scLadL.nd rfl (.inl rfl) (pe_call GTw hr3 (by rfl) gTw kTw bTw .nil pass0 (pa_cons (pe_ix ix_tup (pv 0) pe_int (fun _ _ => rfl)) (pa_cons (pe_ix ix_tup (pv 0) pe_int (fun _ _ => rfl)) (pa_cons (pe_ix ix_tup (pv 1) pe_int (fun _ _ => rfl)) (pa_cons (pe_ix ix_tup (pv 1) pe_int (fun _ _ => rfl)) (pa_cons (pe_ix ix_tup (pv 2) pe_int (fun _ _ => rfl)) (pa_cons (pe_ix ix_tup (pv 2) pe_int (fun _ _ => rfl)) pa_nil))))))))
      (pss_one (ps_ret (pe_and (pe_callG GI hG hr2 (by rfl) gI kI bI .nil (E := E0) pass0 (pa_cons (pe_callN GL hr (by rfl) gL FL.kp kbL (E := E0) pass0 (pa_cons (pv 0) (pa_cons (pv 1) pa_nil)) (pk_cons (pv 2) pk_nil)) (pa_cons (pv 3) pa_nil))) (pe_one (pe_cmpR (op_eqN T GQ bQ hr1) (pe_callN GJo hr (by rfl) gJo FJo.kp kbJ (E := E0) pass0 (pa_cons (pv 0) (pa_cons (pv 1) pa_nil)) (pk_cons (pv 2) pk_nil)) (pe_callN GL hr (by rfl) gL FL.kp kbL (E := E0) pass0 (pa_cons (pv 0) (pa_cons (pv 1) pa_nil)) (pk_cons (pv 2) pk_nil)) (nomark _))))))), ?_⟩
  refine ⟨fun σ H1 => ∃ (d : Addr) (ks : List Int), σ = [some (.ref p1), some (.ref p2), some (.ref p3), some (.ref d)] ∧ Same H H1 ∧ DictAt H1 d ks (TCR.val (joinL a u b v c w)) ∧ Clear ks (TCR.val (joinL a u b v c w)) ∧ ks.length ≤ 1, ?_, fun σ H1 hh => ?_⟩
  · refine ⟨_, rfl, p1, _, 0, _, rfl, rfl, SqT.of hp1, atI_nat (j := 0) rfl, _, rfl, p1, _, 1, _, rfl, rfl, SqT.of hp1, atI_nat (j := 1) rfl, _, rfl, p2, _, 0, _, rfl, rfl, SqT.of hp2, atI_nat (j := 0) rfl, _, rfl, p2, _, 1, _, rfl, rfl, SqT.of hp2, atI_nat (j := 1) rfl, _, rfl, p3, _, 0, _, rfl, rfl, SqT.of hp3, atI_nat (j := 0) rfl, _, rfl, p3, _, 1, _, rfl, rfl, SqT.of hp3, atI_nat (j := 1) rfl, a, u, b, v, c, w, rfl, P1, P2, P3, fun d ks H1 s1 hD cD lk => ?_⟩
    exact ⟨d, ks, rfl, s1, hD, cD, lk⟩
  obtain ⟨d, ks, rfl, s1, hD, cD, lk⟩ := hh
  obtain ⟨l1, sm⟩ := small_join P1 P2 P3
  have cJ := canon_joinL a u b v c w
  refine ⟨_, rfl, _, rfl, _, rfl, rfl, rfl, p1, p2, p3, a, u, b, v, c, w, rfl, s1 _ _ hp1, s1 _ _ hp2, s1 _ _ hp3, P1, P2, P3, fun y H2 s2 hN => ?_⟩
  have s12 := s1.trans s2
  refine ⟨_, rfl, y, d, joinL a u b v c w, ks, rfl, hN, hD.same s2, cD, by omega, cJ, l1, sm, fun H3 s3 => ?_⟩
  have s13 := s12.trans s3
  refine ⟨true, rfl, iteT ?_⟩
  refine ⟨_, rfl, _, rfl, _, rfl, rfl, rfl, p1, p2, p3, a, u, b, v, c, w, rfl, s13 _ _ hp1, s13 _ _ hp2, s13 _ _ hp3, P1, P2, P3, fun z H4 s4 hz hM => ?_⟩
  have s14 := s13.trans s4
  refine ⟨_, rfl, _, rfl, _, rfl, rfl, rfl, p1, p2, p3, a, u, b, v, c, w, rfl, s14 _ _ hp1, s14 _ _ hp2, s14 _ _ hp3, P1, P2, P3, fun y2 H5 s5 hN2 => ?_⟩
  refine ⟨z, y2, _, _, rfl, rfl, hM.same s5, hN2, ?_⟩
  rw [decide_eq_true rfl]
  exact q _ (s14.trans s5)
end
end TC
namespace TC
set_option exponentiation.threshold 20000
open PySem PySem.Spec PyProof.Rows L2 TCA TCX
abbrev nLaw : List Str := ["_law_script", "_law_pen_here", "_law_turn", "_law_one", "_law_other", "_law_third_here", "_law_a", "_law_b", "_law_c", "_law_number"]
theorem scLaw : FnScope nLaw ["_law_script"] (defScope sLaw) := ⟨rfl, rfl, rfl, by decide +kernel, rfl, by decide +kernel, by decide +kernel⟩
def spLaw (K : PySem.W.Frag) : Sp := fun vs H Q _ => ∃ (a : Addr) (ns : List Int), vs = [.ref a] ∧ SqL K H a (ns.map V.int) ∧ ns.length ≤ 63 ∧ ∀ H', Q (.bl true) H'
/-- at the top: one part, above 0 -/
theorem top_one {a b c : Int} (h1 : PairP a a) (h2 : PairP b (c - a)) (h3 : PairP c c) (J : JoinP a b c a (c - a) c) : ∃ (F : Int) (q : Rat), joinL a a b (c - a) c c = [(F, q)] ∧ 0 < q.num := by
  obtain ⟨k1, k2, k3, k4⟩ := canB_iff.mp J.1
  obtain ⟨b0, b1, b2, b3, b4⟩ := h2
  have S := su_joined h1 ⟨b0, b1, b2, b3, b4⟩ h3 J
  have e : jSum a a b (c - a) c = 1 := by
    rw [jSum_top (by omega) k1 k4 k2 k3 (by omega) (Int.le_refl _) b3]
    rw [show ((a - a) / 2).toNat = 0 by omega, bin_0]
    rfl
  rw [e] at S
  have hN := jN_pos a a b (c - a) c c
  have R := rt_ok hN
  have qp : 0 < (1 : Rat) * rQ (jN a a b (c - a) c c) := by
    rw [Rat.one_mul]
    exact R.q0
  rcases S.shape with ⟨_, z⟩ | z
  · have := z _ _ R
    exact absurd this (ne_of_pos qp)
  · refine ⟨_, _, (z _ _ R).1, ?_⟩
    obtain ⟨n, n0, en⟩ := num_nat qp
    show 0 < ((1 : Rat) * rQ (jN a a b (c - a) c c)).num
    omega
structure LTxt (P : Program) (w : World) (K : PySem.W.Frag) (mg : Str → Option Value) (base : Heap) (C fPe fC fRi fFi fL : Addr) (fdPe fdC fdRi fdFi fdL : FuncData) : Prop where
  GPe : FnOk P w K mg base CX0 1 fPe fdPe ["_law_script"] (spPen K)
  bPe : L2.Binds K fdPe ["_law_script"] []
  kPe : PySem.W.keepIn K (.ref fPe) = true
  gPe : mg "_law_pen" = some (.ref fPe)
  GC : FnOk P w K mg base CX0 4 fC fdC ["_law_pen_here", "_law_turn"] spCaseL
  bC : L2.Binds K fdC ["_law_pen_here", "_law_turn"] []
  kC : PySem.W.keepIn K (.ref fC) = true
  gC : mg "_law_case" = some (.ref fC)
  GRi : FnG P w K mg base CX0 7 fRi fdRi ["_law_one", "_law_other", "_law_third_here"] spLadR
  bRi : L2.Binds K fdRi ["_law_one", "_law_other", "_law_third_here"] []
  kRi : PySem.W.keepIn K (.ref fRi) = true
  gRi : mg "_law_ladder_right" = some (.ref fRi)
  GFi : FnOk P w K mg base CX0 1 fFi fdFi ["_law_a", "_law_b", "_law_c"] spFits
  bFi : L2.Binds K fdFi ["_law_a", "_law_b", "_law_c"] []
  kFi : PySem.W.keepIn K (.ref fFi) = true
  gFi : mg "_law_fits" = some (.ref fFi)
  GL : FnOk P w K mg base CX0 6 fL fdL ["one", "other", "to"] (spLadder C)
  gL : mg "ladder" = some (.ref fL)
  grange : mg "range" = none
  glen : mg "len" = none
  gmax : mg "max" = none
  FL : FnP K "ladder" sLadder fL fdL
section
variable {P : Program} {w : World} {K : PySem.W.Frag} {mg : Str → Option Value} {base : Heap} {C fI fQ f fPe fC fRi fFi fL : Addr} {fd fdPe fdC fdRi fdFi fdL : FuncData}
theorem ok_law (F : FnP K "law" sLaw f fd) (TN : TxtN K mg C fI fQ) (T : LTxt P w K mg base C fPe fC fRi fFi fL fdPe fdC fdRi fdFi fdL) : FnG P w K mg base CX0 8 f fd ["_law_script"] (spLaw K) := by
  have kbL : KBn K fdL ["one", "other", "to"] 2 ["to"] (fun us ws => us ++ ws) (fun vs zs => vs ++ zs) := kbindsN T.FL 2 ["to"] (fun _ _ _ _ _ _ us ws h1 h2 => match us, ws, h1, h2 with
    | [_, _], [_], _, _ => rfl)
  refine okG F scLaw (fun vs H Q E h => ?_) (fun cdv A outer s H vs Q E hG hr h => ?_)
  · obtain ⟨_, _, rfl, _⟩ := h
    rfl
  obtain ⟨a, ns, rfl, hS, hn, q⟩ := h
  have hr1 := hr.mono (show 1 ≤ 7 by decide)
  have hr4 := hr.mono (show 4 ≤ 7 by decide)
  have hr6 := hr.mono (show 6 ≤ 7 by decide)
  refine ⟨_, PSs.nox (pss_cons (ps_set (i := 1) scLaw.nd rfl (.inl rfl) (pe_call T.GPe hr1 (by rfl) T.gPe T.kPe T.bPe .nil pass0 (pa_cons (pv 0) pa_nil)))
    (C8.pss_cut (ps_for PassesOwn.never rfl (pi_range1 (by rfl) T.grange (pa_cons pe_int pa_nil)) (pg_name (i := 2) scLaw.nd rfl (.inl rfl))
      (C8.pss_cut (ps_asg (pe_call T.GC hr4 (by rfl) T.gC T.kC T.bC .nil pass0 (pa_cons (pv 1) (pa_cons (pv 2) pa_nil))) (pg_tup rfl (pgs_cons (pg_name (i := 3) scLaw.nd rfl (.inl rfl)) (pgs_cons (pg_name (i := 4) scLaw.nd rfl (.inl rfl)) (pgs_cons (pg_name (i := 5) scLaw.nd rfl (.inl rfl)) pgs_nil)))))
    (C8.pss_cut (ps_if (pt_not (pt_val (pe_callG T.GRi hG hr (by rfl) T.gRi T.kRi T.bRi .nil pass0 (pa_cons (pv 3) (pa_cons (pv 4) (pa_cons (pv 5) pa_nil)))))) (pss_one (ps_ret pe_bl)) pss_nil)
    (C8.pss_cut (ps_par3 (i := 6) (j := 7) (l := 8) rfl scLaw.nd rfl rfl rfl (by decide) (by decide) (by decide) rfl rfl rfl (pa_cons (pe_ix ix_tup (pv 3) pe_int (fun _ _ => rfl)) (pa_cons (pe_ix ix_tup (pv 4) pe_int (fun _ _ => rfl)) (pa_cons (pe_ix ix_tup (pv 5) pe_int (fun _ _ => rfl)) pa_nil))) (by rfl))
    (pss_one (ps_if (PW.pt (pw_and (pt_val (pe_call T.GFi hr1 (by rfl) T.gFi T.kFi T.bFi .nil pass0 (pa_cons (pv 6) (pa_cons (pv 7) (pa_cons (pv 8) pa_nil))))) (pw_and1 (pt_cmpR op_lt (pe_callB (cr_max3 rfl) (by rfl) T.gmax (by decide +kernel) (pa_cons (pv 6) (pa_cons (pv 7) (pa_cons (pv 8) pa_nil)))) pe_int (nomark _))))) (C8.pss_cut (ps_if (pt_not (pt_val (pe_callG T.GRi hG hr (by rfl) T.gRi T.kRi T.bRi .nil pass0 (pa_cons (pe_tup (pa_cons (pv 6) (pa_cons (pv 6) pa_nil))) (pa_cons (pe_tup (pa_cons (pv 7) (pa_cons (pe_op op_sub (pv 8) (pv 6)) pa_nil))) (pa_cons (pe_tup (pa_cons (pv 8) (pa_cons (pv 8) pa_nil))) pa_nil)))))) (pss_one (ps_ret pe_bl)) pss_nil)
    (C8.pss_cut (ps_set (i := 9) scLaw.nd rfl (.inl rfl) (pe_callN T.GL hr6 (by rfl) T.gL T.FL.kp kbL (E := E0) pass0 (pa_cons (pe_tup (pa_cons (pv 6) (pa_cons (pv 6) pa_nil))) (pa_cons (pe_tup (pa_cons (pv 7) (pa_cons (pe_op op_sub (pv 8) (pv 6)) pa_nil))) pa_nil)) (pk_cons (pe_tup (pa_cons (pv 8) (pa_cons (pv 8) pa_nil))) pk_nil)))
    (C8.pss_cut (ps_if (PW.pt (pw_or (pt_cmpR op_ne (pe_callB call_len_seq (by rfl) T.glen PySem.boot_len (pa_cons (pe_fld (pv 9) rfl) pa_nil)) pe_int (nomark _)) (pw_or1 (pt_cmpR op_lt (pe_ix ix_tup (pe_ix ix_tup (pe_fld (pv 9) rfl) pe_int (fun _ _ => rfl)) pe_int (fun _ _ => rfl)) pe_int (nomark _))))) (pss_one (ps_ret pe_bl)) pss_nil)
    (pss_one (ps_if (pt_not (pt_val (pe_callG T.GRi hG hr (by rfl) T.gRi T.kRi T.bRi .nil pass0 (pa_cons (pe_tup (pa_cons (pv 6) (pa_cons (pe_op op_sub pe_int (pv 6)) pa_nil))) (pa_cons (pe_tup (pa_cons (pv 7) (pa_cons (pe_op op_sub (pv 6) (pv 8)) pa_nil))) (pa_cons (pe_tup (pa_cons (pv 8) (pa_cons (pe_op op_sub pe_int (pv 8)) pa_nil))) pa_nil)))))) (pss_one (ps_ret pe_bl)) pss_nil))))) pss_nil))))))
    (pss_one (ps_ret pe_bl)))), ?_⟩
  refine ⟨_, rfl, a, ns, rfl, hS, hn, fun p c ms H1 s1 hp0 hp hc hpc => ?_⟩
  have pen1 : PenAt H1 p c ms 0 := ⟨0, hp, hc, hpc⟩
  refine ⟨fun σ H2 => ∃ (v2 v3 v4 v5 v6 v7 v8 v9 : Option V), σ = [some (.ref a), some (.ref p), v2, v3, v4, v5, v6, v7, v8, v9], ?_, fun σ H2 hM => ?_⟩
  rotate_left
  · obtain ⟨v2, v3, v4, v5, v6, v7, v8, v9, rfl⟩ := hM
    exact q _
  refine ⟨5, rfl, by decide, by decide, ?_⟩
  refine for_range (n := 5) (fun i σ G => ∃ (v2 v3 v4 v5 v6 v7 v8 v9 : Option V) (n : Int), σ = [some (.ref a), some (.ref p), v2, v3, v4, v5, v6, v7, v8, v9] ∧ 0 ≤ n ∧ n ≤ 20 * i ∧ PenAt G p c ms n) ⟨none, none, none, none, none, none, none, none, 0, rfl, by decide, by decide, pen1⟩ (fun i σ G hi hP => ?_) (fun σ G hP => ?_)
  rotate_left
  · obtain ⟨v2, v3, v4, v5, v6, v7, v8, v9, n, rfl, _⟩ := hP
    exact ⟨v2, v3, v4, v5, v6, v7, v8, v9, rfl⟩
  obtain ⟨v2, v3, v4, v5, v6, v7, v8, v9, n, rfl, n0, n1, pen⟩ := hP
  -- the case
  refine ⟨fun σ H3 => ∃ (q1 q2 q3 : Addr) (a1 u1 b1 x1 c1 w1 n' : Int), σ = [some (.ref a), some (.ref p), some (.int (0 + (i : Nat))), some (.ref q1), some (.ref q2), some (.ref q3), v6, v7, v8, v9] ∧ PairP a1 u1 ∧ PairP b1 x1 ∧ PairP c1 w1 ∧ H3 q1 = some (pairO (a1, u1)) ∧ H3 q2 = some (pairO (b1, x1)) ∧ H3 q3 = some (pairO (c1, w1)) ∧ n ≤ n' ∧ n' ≤ n + 20 ∧ PenAt H3 p c ms n', ?_, fun σ H3 hh => ?_⟩
  · refine ⟨_, rfl, _, rfl, p, c, ms, n, 0 + (i : Nat), rfl, pen, n0, by omega, fun t a1 u1 b1 x1 c1 w1 n' H3 P1 P2 P3 h3 y0 y1 p3 s3 => ?_⟩
    obtain ⟨q1, q2, q3, g0, g1, g2, g3⟩ := h3
    exact ⟨t, _, rfl, SqT.of g0, rfl, _, _, rfl, _, _, rfl, _, _, rfl, rfl, q1, q2, q3, a1, u1, b1, x1, c1, w1, n', rfl, P1, P2, P3, g1, g2, g3, y0, y1, p3⟩
  obtain ⟨q1, q2, q3, a1, u1, b1, x1, c1, w1, n', rfl, P1, P2, P3, g1, g2, g3, y0, y1, p3⟩ := hh
  -- right there
  refine ⟨fun σ H4 => σ = [some (.ref a), some (.ref p), some (.int (0 + (i : Nat))), some (.ref q1), some (.ref q2), some (.ref q3), v6, v7, v8, v9] ∧ Same H3 H4, ⟨_, rfl, _, rfl, _, rfl, q1, q2, q3, a1, u1, b1, x1, c1, w1, rfl, g1, g2, g3, P1, P2, P3, fun H4 s4 => ⟨true, rfl, iteF ⟨rfl, s4⟩⟩⟩, fun σ H4 hh => ?_⟩
  obtain ⟨rfl, s4⟩ := hh
  replace g1 := s4 _ _ g1
  replace g2 := s4 _ _ g2
  replace g3 := s4 _ _ g3
  have p4 := p3.same s4
  -- the sizes
  refine ⟨fun σ H5 => σ = [some (.ref a), some (.ref p), some (.int (0 + (i : Nat))), some (.ref q1), some (.ref q2), some (.ref q3), some (.int a1), some (.int b1), some (.int c1), v9] ∧ H5 = H4, ⟨_, rfl, q1, _, 0, _, rfl, rfl, SqT.of g1, atI_nat (j := 0) rfl, _, rfl, q2, _, 0, _, rfl, rfl, SqT.of g2, atI_nat (j := 0) rfl, _, rfl, q3, _, 0, _, rfl, rfl, SqT.of g3, atI_nat (j := 0) rfl, _, _, _, rfl, rfl, rfl⟩, fun σ H5 hh => ?_⟩
  obtain ⟨rfl, rfl⟩ := hh
  have fin : ∀ v9 H', Same H5 H' → ∃ (v2 v3 v4 v5 v6 v7 v8 w9 : Option V) (m : Int), [some (.ref a), some (.ref p), some (.int (0 + (i : Nat))), some (.ref q1), some (.ref q2), some (.ref q3), some (.int a1), some (.int b1), some (.int c1), v9] = [some (.ref a), some (.ref p), v2, v3, v4, v5, v6, v7, v8, w9] ∧ 0 ≤ m ∧ m ≤ 20 * ((i + 1 : Nat) : Int) ∧ PenAt H' p c ms m := fun v9 H' s => ⟨_, _, _, _, _, _, _, v9, n', rfl, by omega, by omega, p4.same s⟩
  obtain ⟨a0, a1', a2, a3, a4⟩ := id P1
  obtain ⟨b0, b1', b2, b3, b4⟩ := id P2
  obtain ⟨c0, c1', c2, c3, c4⟩ := id P3
  refine ⟨_, rfl, _, rfl, _, rfl, a1, b1, c1, rfl, _, rfl, ?_⟩
  cases ef : fitsB a1 b1 c1 with
  | false => exact iteF (fin v9 _ (Same.refl _))
  | true =>
  obtain ⟨k1, k2, k3, k4⟩ := fits_iff.mp ef
  refine iteT ⟨_, rfl, _, rfl, _, rfl, a1, b1, c1, rfl, fun m hm1 hm2 => ⟨m, 13, rfl, rfl, _, rfl, ?_⟩⟩
  by_cases z13 : m < 13
  rotate_left
  · exact iteD0 z13 (fin v9 _ (Same.refl _))
  refine iteD1 z13 ?_
  have PA : PairP a1 a1 := ⟨a0, a1', by omega, by omega, by omega⟩
  have PB : PairP b1 (c1 - a1) := ⟨b0, b1', by omega, by omega, by omega⟩
  have PC : PairP c1 c1 := ⟨c0, c1', by omega, by omega, by omega⟩
  have PA' : PairP a1 (0 - a1) := ⟨a0, a1', by omega, by omega, by omega⟩
  have PB' : PairP b1 (a1 - c1) := ⟨b0, b1', by omega, by omega, by omega⟩
  have PC' : PairP c1 (0 - c1) := ⟨c0, c1', by omega, by omega, by omega⟩
  have J : JoinP a1 b1 c1 a1 (c1 - a1) c1 := ⟨canB_iff.mpr ⟨k1, k3, k4, k2⟩, by omega⟩
  refine ⟨fun σ H6 => σ = [some (.ref a), some (.ref p), some (.int (0 + (i : Nat))), some (.ref q1), some (.ref q2), some (.ref q3), some (.int a1), some (.int b1), some (.int c1), v9] ∧ Same H5 H6, ?_, fun σ H6 hh => ?_⟩
  · refine ⟨_, rfl, _, rfl, by show 2 ≤ sizeLine; decide, fun y1' hy1 => ?_⟩
    have t1 := same_upd (o := .tup [.int a1, .int a1]) hy1
    refine ⟨_, rfl, _, rfl, _, rfl, _, _, rfl, rfl, by show 2 ≤ sizeLine; decide, fun y2 hy2 => ?_⟩
    have t2 := same_upd (o := .tup [.int b1, .int (c1 - a1)]) hy2
    refine ⟨_, rfl, _, rfl, by show 2 ≤ sizeLine; decide, fun y3 hy3 => ?_⟩
    have t3 := same_upd (o := .tup [.int c1, .int c1]) hy3
    exact ⟨y1', y2, y3, a1, a1, b1, c1 - a1, c1, c1, rfl, t3 _ _ (t2 _ _ upd_same), t3 _ _ upd_same, upd_same, PA, PB, PC, fun H6 s6 => ⟨true, rfl, iteF ⟨rfl, ((t1.trans t2).trans t3).trans s6⟩⟩⟩
  obtain ⟨rfl, s6⟩ := hh
  -- the number at the top
  refine ⟨fun σ H7 => ∃ x : Addr, σ = [some (.ref a), some (.ref p), some (.int (0 + (i : Nat))), some (.ref q1), some (.ref q2), some (.ref q3), some (.int a1), some (.int b1), some (.int c1), some (.ref x)] ∧ Same H5 H7 ∧ NumAt C H7 x (joinL a1 a1 b1 (c1 - a1) c1 c1), ?_, fun σ H7 hh => ?_⟩
  · refine ⟨_, rfl, _, rfl, by show 2 ≤ sizeLine; decide, fun y1' hy1 => ?_⟩
    have t1 := same_upd (o := .tup [.int a1, .int a1]) hy1
    refine ⟨_, rfl, _, rfl, _, rfl, _, _, rfl, rfl, by show 2 ≤ sizeLine; decide, fun y2 hy2 => ?_⟩
    have t2 := same_upd (o := .tup [.int b1, .int (c1 - a1)]) hy2
    refine ⟨_, rfl, _, rfl, by show 2 ≤ sizeLine; decide, fun y3 hy3 => ?_⟩
    have t3 := same_upd (o := .tup [.int c1, .int c1]) hy3
    exact ⟨rfl, rfl, y1', y2, y3, a1, a1, b1, c1 - a1, c1, c1, rfl, t3 _ _ (t2 _ _ upd_same), t3 _ _ upd_same, upd_same, PA, PB, PC, fun x H7 s7 hN => ⟨x, rfl, (((s6.trans t1).trans t2).trans t3).trans s7, hN⟩⟩
  obtain ⟨x, rfl, s7, hN⟩ := hh
  obtain ⟨F1, q0, eL, qp⟩ := top_one PA PB PC J
  rw [eL] at hN
  obtain ⟨dx, pp, hx1, us, hpp, hrefs⟩ := id hN
  cases us with
  | nil => cases hrefs
  | cons u us =>
  obtain ⟨hu', hrefs⟩ := hrefs
  have hlen : us.length = 0 := hrefs.len
  refine ⟨fun σ H8 => σ = [some (.ref a), some (.ref p), some (.int (0 + (i : Nat))), some (.ref q1), some (.ref q2), some (.ref q3), some (.int a1), some (.int b1), some (.int c1), some (.ref x)] ∧ H8 = H7, ?_, fun σ H8 hh => ?_⟩
  · refine ⟨_, rfl, x, C, dx, _, _, rfl, hx1, TN.cl, TN.nP, rfl, pp, _, rfl, .inr (SqT.of hpp), rfl, _, rfl, iteNS ?_ ?_⟩
    · rw [List.length_map, List.length_cons, hlen]
      rfl
    refine ⟨_, rfl, x, C, dx, _, _, rfl, hx1, TN.cl, TN.nP, rfl, pp, _, 0, .ref u, rfl, rfl, SqT.of hpp, atI_nat (j := 0) rfl, u, _, 1, _, rfl, rfl, SqT.of hu', atI_nat (j := 1) rfl, q0.num, 1, rfl, rfl, _, rfl, iteD0 (show ¬ q0.num < 1 by omega) ⟨rfl, rfl⟩⟩
  obtain ⟨rfl, rfl⟩ := hh
  have t57 := s7
  refine ⟨_, rfl, _, rfl, 0, a1, rfl, rfl, by show 2 ≤ sizeLine; decide, fun y1' hy1 => ?_⟩
  have t1 := same_upd (o := .tup [.int a1, .int (0 - a1)]) hy1
  refine ⟨_, rfl, _, rfl, _, rfl, _, _, rfl, rfl, by show 2 ≤ sizeLine; decide, fun y2 hy2 => ?_⟩
  have t2 := same_upd (o := .tup [.int b1, .int (a1 - c1)]) hy2
  refine ⟨_, rfl, _, rfl, 0, c1, rfl, rfl, by show 2 ≤ sizeLine; decide, fun y3 hy3 => ?_⟩
  have t3 := same_upd (o := .tup [.int c1, .int (0 - c1)]) hy3
  exact ⟨y1', y2, y3, a1, 0 - a1, b1, a1 - c1, c1, 0 - c1, rfl, t3 _ _ (t2 _ _ upd_same), t3 _ _ upd_same, upd_same, PA', PB', PC', fun H6 s6 => ⟨true, rfl, iteF (fin (some (.ref x)) _ ((((t57.trans t1).trans t2).trans t3).trans s6))⟩⟩
end
end TC
namespace TC
open PySem PySem.Spec PyProof.Rows L2 TCA TCX 
theorem facts {P : Program} {w : World} {K : PySem.W.Frag} {h : Heap} {mg : Str → Option Value} {f : Addr} (X : K.In h) (G : h.Ns mainGlobals mg) (hfa : mg ("law" : Str) = some (.ref f)) (sx : He.SaysX fa fn [] tf exB w h K) :
    ∃ fd : FuncData, (∀ (s : Shared) (v : Value), BindsTo s fd ⟨[v], []⟩ [("_law_script", v)]) ∧ ∀ base : Heap, K.In base → base.Ns mainGlobals mg → FnG P w K mg base CX0 8 f fd ["_law_script"] (spLaw K) := by
  have c := sx.t.d
  obtain ⟨fdI, FI⟩ := c.def_ 0 (d := dm "__init__" "Exact.__init__" sInit) rfl
  obtain ⟨fdEq, FEq⟩ := c.def_ 1 (d := dm "__eq__" "Exact.__eq__" sEq) rfl
  obtain ⟨fdE, FE⟩ := c.def_ 2 (d := dExact) rfl
  obtain ⟨fd3, F3⟩ := c.def_ 3 (d := dd "is_whole" sWhole) rfl
  obtain ⟨fd4, F4⟩ := c.def_ 4 (d := dd "shared" sShared) rfl
  obtain ⟨fd5, F5⟩ := c.def_ 5 (d := dd "in_lowest" sLowest) rfl
  obtain ⟨fd6, F6⟩ := c.def_ 6 (d := dd "sum_in_lowest" sSumLow) rfl
  obtain ⟨fd7, F7⟩ := c.def_ 7 (d := dd "primes_in" sPrimesIn) rfl
  obtain ⟨fd8, F8⟩ := c.def_ 8 (d := dd "squares_out" sSquares) rfl
  obtain ⟨fd9, F9⟩ := c.def_ 9 (d := dd "is_odd" sOdd) rfl
  obtain ⟨fd10, F10⟩ := c.def_ 10 (d := dd "factorials" sFacts) rfl
  obtain ⟨fd11, F11⟩ := c.def_ 11 (d := dd "primes_of_factorials" sPrimesF) rfl
  obtain ⟨fd12, F12⟩ := c.def_ 12 (d := dd "plus" sPlus) rfl
  obtain ⟨fd13, F13⟩ := c.def_ 13 (d := dd "times" sTimes) rfl
  obtain ⟨fd14, F14⟩ := c.def_ 14 (d := dd "over" sOver) rfl
  obtain ⟨fd15, F15⟩ := c.def_ 15 (d := dd "root_of" sRootOf) rfl
  obtain ⟨fd16, F16⟩ := c.def_ 16 (d := dd "root_of_factorials" sRootF) rfl
  obtain ⟨fd17, F17⟩ := c.def_ 17 (d := dd "need_exact" sNeed) rfl
  obtain ⟨fd18, F18⟩ := c.def_ 18 (d := dd "merged" sMerged) rfl
  obtain ⟨fd19, F19⟩ := c.def_ 19 (d := dd "on_one_bottom" sOneBottom) rfl
  obtain ⟨fd20, F20⟩ := c.def_ 20 (d := dd "lowered" sLowered) rfl
  obtain ⟨fd21, F21⟩ := c.def_ 21 (d := dd "products" sProducts) rfl
  obtain ⟨fd22, F22⟩ := c.def_ 22 (d := dd "primes_of_roots" sPrimesRoots) rfl
  obtain ⟨fd23, F23⟩ := c.def_ 23 (d := dd "upside_down" sUpside) rfl
  obtain ⟨fd24, F24⟩ := c.def_ 24 (d := dd "joined" sJoined) rfl
  obtain ⟨fd25, F25⟩ := c.def_ 25 (d := dd "ladder" sLadder) rfl
  obtain ⟨fd26, F26⟩ := c.def_ 26 (d := dd "is_size" sIsSize) rfl
  obtain ⟨fd27, F27⟩ := c.def_ 27 (d := dd "is_offset" sIsOffset) rfl
  obtain ⟨fd28, F28⟩ := c.def_ 28 (d := dd "need_sizes" sNeedSizes) rfl
  obtain ⟨fd29, F29⟩ := c.def_ 29 (d := dd "need_pairs" sNeedPairs) rfl
  obtain ⟨fd30, F30⟩ := c.def_ 30 (d := dd "can_join" sCanJoin) rfl
  obtain ⟨fd31, F31⟩ := c.def_ 31 (d := dd "joined_number" sJoinedN) rfl
  obtain ⟨fd32, F32⟩ := c.def_ 32 (d := dd "terms_of_joined" sTerms) rfl
  obtain ⟨fd33, F33⟩ := c.def_ 33 (d := dd "numbers_at_top" sTopN) rfl
  obtain ⟨fd34, F34⟩ := c.def_ 34 (d := dd "numbers_below" sBelowN) rfl
  obtain ⟨fd35, F35⟩ := c.def_ 35 (d := dd "_law_pen" sPen) rfl
  obtain ⟨fd36, F36⟩ := c.def_ 36 (d := dd "_law_draw" sDraw) rfl
  obtain ⟨fd37, F37⟩ := c.def_ 37 (d := dd "_law_low" sLow) rfl
  obtain ⟨fd38, F38⟩ := c.def_ 38 (d := dd "_law_cleared" sCleared) rfl
  obtain ⟨fd39, F39⟩ := c.def_ 39 (d := dd "_law_by" sBy) rfl
  obtain ⟨fd40, F40⟩ := c.def_ 40 (d := dd "_law_parts" sParts) rfl
  obtain ⟨fd41, F41⟩ := c.def_ 41 (d := dd "_law_rooted" sRooted) rfl
  obtain ⟨fd42, F42⟩ := c.def_ 42 (d := dd "_law_factorial" sFactorial) rfl
  obtain ⟨fd43, F43⟩ := c.def_ 43 (d := dd "_law_two" sTwo) rfl
  obtain ⟨fd44, F44⟩ := c.def_ 44 (d := dd "_law_is" sIs) rfl
  obtain ⟨fd45, F45⟩ := c.def_ 45 (d := dd "_law_fits" sFits) rfl
  obtain ⟨fd46, F46⟩ := c.def_ 46 (d := dd "_law_third" sThird) rfl
  obtain ⟨fd47, F47⟩ := c.def_ 47 (d := dd "_law_pairs" sPairs) rfl
  obtain ⟨fd48, F48⟩ := c.def_ 48 (d := dd "_law_sizes" sSizesL) rfl
  obtain ⟨fd49, F49⟩ := c.def_ 49 (d := dd "_law_case" sCaseL) rfl
  obtain ⟨fd50, F50⟩ := c.def_ 50 (d := dd "_law_ladder_right" sLadL) rfl
  obtain ⟨fd51, F51⟩ := c.def_ 51 (d := dd "law" sLaw) rfl
  have glo : ∀ (i : Nat) (x : Str), TC.fa[i]? = some (.glo x) → mg x = some (.ref (He.ga K x)) := fun i x e => He.glo_ok X G (c.fact i (f := .glo x) e)
  have free : ∀ (i : Nat) (x : Str), TC.fa[i]? = some (.free x) → mg x = none := fun i x e => He.free_ok X G (c.fact i (f := .free x) e)
  obtain ⟨ti_HIGHEST_ROOT, gi_HIGHEST_ROOT⟩ := He.int_ok X G (c.fact 3 (f := .int "HIGHEST_ROOT" 1000000) rfl)
  obtain ⟨ti_HIGHEST_SIZE, gi_HIGHEST_SIZE⟩ := He.int_ok X G (c.fact 4 (f := .int "HIGHEST_SIZE" 40) rfl)
  obtain ⟨ti_MOST_PRIMES, gi_MOST_PRIMES⟩ := He.int_ok X G (c.fact 5 (f := .int "MOST_PRIMES" 6) rfl)
  obtain ⟨ti_TOO_LONG, gi_TOO_LONG⟩ := He.int_ok X G (c.fact 6 (f := .int "TOO_LONG" (10 ^ 60)) rfl)
  obtain ⟨xn, xe⟩ := He.ba sx.more
  obtain ⟨xP, ex⟩ := He.ba xn
  obtain ⟨xN, ex⟩ := He.ba ex
  obtain ⟨xC, ex⟩ := He.ba ex
  obtain ⟨xG, ex⟩ := He.ba ex
  obtain ⟨xT, ex⟩ := He.ba ex
  obtain ⟨xM, xO⟩ := He.ba ex
  have T : TxtN K mg (He.ga K "Exact") (He.ma K (He.ga K "Exact") "__init__") (He.ma K (He.ga K "Exact") "__eq__") := {
    cl := He.cls_ok (c.fact 7 (f := .cls "Exact") rfl)
    nP := He.noat_ok (c.fact 8 (f := .noat "Exact" "parts") rfl)
    mkr := He.mkr_ok (c.fact 9 (f := .mkr "Exact") rfl)
    mq := He.meth_ok (c.fact 10 (f := .meth "Exact" "__eq__") rfl)
    mgC := glo 0 "Exact" rfl
    ne := He.eqO_ok xN
    ca := He.eqO_ok xC
    cn := He.eqO_ok xG
    ct := of_decide_eq_true xT
    cm := of_decide_eq_true xM }
  have hT : ∀ H, SqT K H (He.ga K "PRIMES") (primes.map V.int) := fun H => by
    have z := He.tupB_ok xP H
    rw [List.map_map] at z
    exact z
  have hT2 : ∀ H, SqT K H (He.ga K "PRIMES") (TCM.primes.map V.int) := hT
  have e := hfa.symm.trans (glo 59 "law" rfl)
  cases e
  have bI := FunD.bindsN (ps := ["self", "parts"]) FI fun _ _ _ _ _ _ us hl => match us, hl with | [_, _], _ => rfl
  have bEq := FunD.bindsN (ps := ["self", "other"]) FEq fun _ _ _ _ _ _ us hl => match us, hl with | [_, _], _ => rfl
  have b3 := FunD.bindsN (ps := ["thing"]) F3 fun _ _ _ _ _ _ us hl => match us, hl with | [_], _ => rfl
  have b4 := FunD.bindsN (ps := ["one", "other"]) F4 fun _ _ _ _ _ _ us hl => match us, hl with | [_, _], _ => rfl
  have b5 := FunD.bindsN (ps := ["top", "bottom"]) F5 fun _ _ _ _ _ _ us hl => match us, hl with | [_, _], _ => rfl
  have b6 := FunD.bindsN (ps := ["top", "bottom", "other", "below"]) F6 fun _ _ _ _ _ _ us hl => match us, hl with | [_, _, _, _], _ => rfl
  have b7 := FunD.bindsN (ps := ["number"]) F7 fun _ _ _ _ _ _ us hl => match us, hl with | [_], _ => rfl
  have b8 := FunD.bindsN (ps := ["number"]) F8 fun _ _ _ _ _ _ us hl => match us, hl with | [_], _ => rfl
  have b9 := FunD.bindsN (ps := ["number"]) F9 fun _ _ _ _ _ _ us hl => match us, hl with | [_], _ => rfl
  have b10 := FunD.bindsN (ps := ["high"]) F10 fun _ _ _ _ _ _ us hl => match us, hl with | [_], _ => rfl
  have b11 := FunD.bindsN (ps := ["above", "below"]) F11 fun _ _ _ _ _ _ us hl => match us, hl with | [_, _], _ => rfl
  have b12 := FunD.bindsN (ps := ["one", "other"]) F12 fun _ _ _ _ _ _ us hl => match us, hl with | [_, _], _ => rfl
  have b13 := FunD.bindsN (ps := ["one", "other"]) F13 fun _ _ _ _ _ _ us hl => match us, hl with | [_, _], _ => rfl
  have b14 := FunD.bindsN (ps := ["one", "other"]) F14 fun _ _ _ _ _ _ us hl => match us, hl with | [_, _], _ => rfl
  have b15 := FunD.bindsN (ps := ["one"]) F15 fun _ _ _ _ _ _ us hl => match us, hl with | [_], _ => rfl
  have b16 := FunD.bindsN (ps := ["above", "below"]) F16 fun _ _ _ _ _ _ us hl => match us, hl with | [_, _], _ => rfl
  have b17 := FunD.bindsN (ps := ["thing"]) F17 fun _ _ _ _ _ _ us hl => match us, hl with | [_], _ => rfl
  have b18 := FunD.bindsN (ps := ["parts", "others"]) F18 fun _ _ _ _ _ _ us hl => match us, hl with | [_, _], _ => rfl
  have b19 := FunD.bindsN (ps := ["parts"]) F19 fun _ _ _ _ _ _ us hl => match us, hl with | [_], _ => rfl
  have b20 := FunD.bindsN (ps := ["tops", "bottom"]) F20 fun _ _ _ _ _ _ us hl => match us, hl with | [_, _], _ => rfl
  have b21 := FunD.bindsN (ps := ["tops", "others"]) F21 fun _ _ _ _ _ _ us hl => match us, hl with | [_, _], _ => rfl
  have b22 := FunD.bindsN (ps := ["parts"]) F22 fun _ _ _ _ _ _ us hl => match us, hl with | [_], _ => rfl
  have b23 := FunD.bindsN (ps := ["parts", "primes"]) F23 fun _ _ _ _ _ _ us hl => match us, hl with | [_, _], _ => rfl
  have b26 := FunD.bindsN (ps := ["thing"]) F26 fun _ _ _ _ _ _ us hl => match us, hl with | [_], _ => rfl
  have b27 := FunD.bindsN (ps := ["thing", "size"]) F27 fun _ _ _ _ _ _ us hl => match us, hl with | [_, _], _ => rfl
  have b28 := FunD.bindsN (ps := ["things"]) F28 fun _ _ _ _ _ _ us hl => match us, hl with | [_], _ => rfl
  have b29 := FunD.bindsN (ps := ["things"]) F29 fun _ _ _ _ _ _ us hl => match us, hl with | [_], _ => rfl
  have b30 := FunD.bindsN (ps := ["one", "other", "third"]) F30 fun _ _ _ _ _ _ us hl => match us, hl with | [_, _, _], _ => rfl
  have b31 := FunD.bindsN (ps := ["one", "other", "to"]) F31 fun _ _ _ _ _ _ us hl => match us, hl with | [_, _, _], _ => rfl
  have b32 := FunD.bindsN (ps := ["one", "other", "c"]) F32 fun _ _ _ _ _ _ us hl => match us, hl with | [_, _, _], _ => rfl
  have b33 := FunD.bindsN (ps := ["a", "b", "c"]) F33 fun _ _ _ _ _ _ us hl => match us, hl with | [_, _, _], _ => rfl
  have b34 := FunD.bindsN (ps := ["numbers", "sizes", "w", "reach"]) F34 fun _ _ _ _ _ _ us hl => match us, hl with | [_, _, _, _], _ => rfl
  have b35 := FunD.bindsN (ps := ["_law_script"]) F35 fun _ _ _ _ _ _ us hl => match us, hl with | [_], _ => rfl
  have b36 := FunD.bindsN (ps := ["_law_pen_here", "_law_many"]) F36 fun _ _ _ _ _ _ us hl => match us, hl with | [_, _], _ => rfl
  have b37 := FunD.bindsN (ps := ["_law_up", "_law_under"]) F37 fun _ _ _ _ _ _ us hl => match us, hl with | [_, _], _ => rfl
  have b38 := FunD.bindsN (ps := ["_law_some"]) F38 fun _ _ _ _ _ _ us hl => match us, hl with | [_], _ => rfl
  have b39 := FunD.bindsN (ps := ["_law_one", "_law_up", "_law_under"]) F39 fun _ _ _ _ _ _ us hl => match us, hl with | [_, _, _], _ => rfl
  have b40 := FunD.bindsN (ps := ["_law_some"]) F40 fun _ _ _ _ _ _ us hl => match us, hl with | [_], _ => rfl
  have b41 := FunD.bindsN (ps := ["_law_up", "_law_under"]) F41 fun _ _ _ _ _ _ us hl => match us, hl with | [_, _], _ => rfl
  have b42 := FunD.bindsN (ps := ["_law_n"]) F42 fun _ _ _ _ _ _ us hl => match us, hl with | [_], _ => rfl
  have b43 := FunD.bindsN (ps := ["_law_a", "_law_u", "_law_b", "_law_v", "_law_c", "_law_w"]) F43 fun _ _ _ _ _ _ us hl => match us, hl with | [_, _, _, _, _, _], _ => rfl
  have b44 := FunD.bindsN (ps := ["_law_number", "_law_due"]) F44 fun _ _ _ _ _ _ us hl => match us, hl with | [_, _], _ => rfl
  have b45 := FunD.bindsN (ps := ["_law_a", "_law_b", "_law_c"]) F45 fun _ _ _ _ _ _ us hl => match us, hl with | [_, _, _], _ => rfl
  have b46 := FunD.bindsN (ps := ["_law_pen_here", "_law_a", "_law_b", "_law_high"]) F46 fun _ _ _ _ _ _ us hl => match us, hl with | [_, _, _, _], _ => rfl
  have b47 := FunD.bindsN (ps := ["_law_pen_here", "_law_sizes_here"]) F47 fun _ _ _ _ _ _ us hl => match us, hl with | [_, _], _ => rfl
  have b48 := FunD.bindsN (ps := ["_law_pen_here", "_law_high"]) F48 fun _ _ _ _ _ _ us hl => match us, hl with | [_, _], _ => rfl
  have b49 := FunD.bindsN (ps := ["_law_pen_here", "_law_turn"]) F49 fun _ _ _ _ _ _ us hl => match us, hl with | [_, _], _ => rfl
  have b50 := FunD.bindsN (ps := ["_law_one", "_law_other", "_law_third_here"]) F50 fun _ _ _ _ _ _ us hl => match us, hl with | [_, _, _], _ => rfl
  have b := FunD.bindsA (ps := ["_law_script"]) F51 fun _ _ _ _ _ _ us hl => match us, hl with | [_], _ => rfl
  refine ⟨fd51, fun s v => b s [v] rfl, fun base _ _ => ?_⟩
  have G_law_pen := ok_pen (P := P) (w := w) (mg := mg) (base := base) F35 (free 75 "list" rfl)
  have G_law_draw := ok_draw (P := P) (w := w) (mg := mg) (base := base) F36 (free 77 "len" rfl)
  have G_law_fits := ok_fits (P := P) (w := w) (mg := mg) (base := base) F45
  have G_law_third := ok_third (P := P) (w := w) (mg := mg) (base := base) F46 G_law_draw b36 F36.kp (glo 44 "_law_draw" rfl) G_law_fits b45 F45.kp (glo 53 "_law_fits" rfl) (free 78 "range" rfl) (free 71 "int" rfl) (free 73 "abs" rfl) (free 77 "len" rfl)
  have G_law_sizes := ok_sizesL (P := P) (w := w) (mg := mg) (base := base) F48 G_law_draw b36 F36.kp (glo 44 "_law_draw" rfl) G_law_third b46 F46.kp (glo 54 "_law_third" rfl)
  have G_law_pairs := ok_pairs (P := P) (w := w) (mg := mg) (base := base) F47 G_law_draw b36 F36.kp (glo 44 "_law_draw" rfl) (free 81 "max" rfl) (free 82 "min" rfl)
  have G_law_case := ok_caseL (P := P) (w := w) (mg := mg) (base := base) F49 G_law_draw b36 F36.kp (glo 44 "_law_draw" rfl) G_law_sizes b48 F48.kp (glo 56 "_law_sizes" rfl) G_law_pairs b47 F47.kp (glo 55 "_law_pairs" rfl) (free 71 "int" rfl)
  have G_law_factorial := ok_factL (P := P) (w := w) (mg := mg) (base := base) F42 (free 78 "range" rfl)
  have G_law_low := ok_lowL (P := P) (w := w) (mg := mg) (base := base) F37 (free 73 "abs" rfl)
  have G_law_rooted := ok_rooted (P := P) (w := w) (mg := mg) (base := base) F41 G_law_low b37 F37.kp (glo 45 "_law_low" rfl)
  have G_law_cleared := ok_cleared (P := P) (w := w) (mg := mg) (base := base) F38 (free 80 "dict" rfl)
  have G_law_by := ok_by (P := P) (w := w) (mg := mg) (base := base) F39 G_law_low b37 F37.kp (glo 45 "_law_low" rfl) G_law_cleared b38 F38.kp (glo 46 "_law_cleared" rfl)
  have G_law_two := ok_two (P := P) (w := w) (mg := mg) (base := base) F43 G_law_factorial b42 F42.kp (glo 50 "_law_factorial" rfl) G_law_low b37 F37.kp (glo 45 "_law_low" rfl) G_law_rooted b41 F41.kp (glo 49 "_law_rooted" rfl) G_law_by b39 F39.kp (glo 47 "_law_by" rfl) (free 73 "abs" rfl) (free 82 "min" rfl) (free 78 "range" rfl)
  have G_law_parts := ok_parts (P := P) (w := w) (mg := mg) (base := base) F40 (free 76 "tuple" rfl) (free 74 "sorted" rfl)
  have G_law_is := ok_is (P := P) (w := w) (mg := mg) (base := base) F44 T G_law_parts b40 F40.kp (glo 48 "_law_parts" rfl) (free 70 "isinstance" rfl) (free 87 "repr" rfl)
  have G_is_whole := ok_whole (P := P) (w := w) (mg := mg) (base := base) F3 (free 70 "isinstance" rfl) (free 71 "int" rfl) (free 72 "bool" rfl)
  have G_squares_out_spSquares := ok_squares (P := P) (w := w) (mg := mg) (base := base) F8 (glo 2 "PRIMES" rfl) hT2
  have G_shared := ok_shared (P := P) (w := w) (mg := mg) (base := base) F4 (free 73 "abs" rfl)
  have G_in_lowest := ok_lowest (P := P) (w := w) (mg := mg) (base := base) F5 G_shared b4 F4.kp (glo 12 "shared" rfl)
  have G_init := ok_init (P := P) (w := w) (mg := mg) (base := base) FI T
  have G_lowered := ok_lowered (P := P) (w := w) (mg := mg) (base := base) F20 T G_in_lowest b5 F5.kp (glo 13 "in_lowest" rfl) G_init bI (free 74 "sorted" rfl) (free 75 "list" rfl) (free 76 "tuple" rfl)
  have G_exact := ok_exact (P := P) (w := w) (mg := mg) (base := base) FE G_is_whole b3 F3.kp (glo 11 "is_whole" rfl) G_squares_out_spSquares b8 F8.kp (glo 16 "squares_out" rfl) G_lowered b20 F20.kp (glo 28 "lowered" rfl) gi_HIGHEST_ROOT
  have G_is_size := ok_isSize (P := P) (w := w) (mg := mg) (base := base) F26 G_is_whole b3 F3.kp (glo 11 "is_whole" rfl) gi_HIGHEST_SIZE
  have G_need_sizes_spNeedSizes := ok_needSizes (P := P) (w := w) (mg := mg) (base := base) F28 G_is_size b26 F26.kp (glo 34 "is_size" rfl)
  have G_is_odd := ok_odd (P := P) (w := w) (mg := mg) (base := base) F9
  have G_is_offset := ok_isOffset (P := P) (w := w) (mg := mg) (base := base) F27 G_is_whole b3 F3.kp (glo 11 "is_whole" rfl) G_is_odd b9 F9.kp (glo 17 "is_odd" rfl)
  have G_need_pairs := ok_needPairs (P := P) (w := w) (mg := mg) (base := base) F29 G_need_sizes_spNeedSizes b28 F28.kp (glo 36 "need_sizes" rfl) G_is_offset b27 F27.kp (glo 35 "is_offset" rfl) (free 70 "isinstance" rfl) (free 76 "tuple" rfl) (free 77 "len" rfl)
  have G_can_join := ok_canJoin (P := P) (w := w) (mg := mg) (base := base) F30 G_is_odd b9 F9.kp (glo 17 "is_odd" rfl)
  have G_need_exact := ok_need (P := P) (w := w) (mg := mg) (base := base) F17 T (free 70 "isinstance" rfl)
  have G_on_one_bottom := ok_oneB (P := P) (w := w) (mg := mg) (base := base) F19 G_shared b4 F4.kp (glo 12 "shared" rfl)
  have G_products := ok_products (P := P) (w := w) (mg := mg) (base := base) F21 G_shared b4 F4.kp (glo 12 "shared" rfl)
  have G_times_spTimesA := ok_timesA (P := P) (w := w) (mg := mg) (base := base) F13 T G_need_exact b17 F17.kp (glo 25 "need_exact" rfl) G_on_one_bottom b19 F19.kp (glo 27 "on_one_bottom" rfl) G_products b21 F21.kp (glo 29 "products" rfl) G_lowered b20 F20.kp (glo 28 "lowered" rfl)
  have G_primes_in := ok_primesIn (P := P) (w := w) (mg := mg) (base := base) F7 (glo 2 "PRIMES" rfl) hT
  have G_primes_of_roots := ok_primesRoots (P := P) (w := w) (mg := mg) (base := base) F22 G_shared b4 F4.kp (glo 12 "shared" rfl) G_primes_in b7 F7.kp (glo 15 "primes_in" rfl)
  have G_upside_down := ok_upside (P := P) (w := w) (mg := mg) (base := base) F23 G_on_one_bottom b19 F19.kp (glo 27 "on_one_bottom" rfl) G_products b21 F21.kp (glo 29 "products" rfl) (free 84 "any" rfl)
  have G_over := ok_over (P := P) (w := w) (mg := mg) (base := base) F14 T (free 77 "len" rfl) gi_MOST_PRIMES G_need_exact b17 F17.kp (glo 25 "need_exact" rfl) G_primes_of_roots b22 F22.kp (glo 30 "primes_of_roots" rfl) G_on_one_bottom b19 F19.kp (glo 27 "on_one_bottom" rfl) G_upside_down b23 F23.kp (glo 31 "upside_down" rfl) G_products b21 F21.kp (glo 29 "products" rfl) G_lowered b20 F20.kp (glo 28 "lowered" rfl)
  have G_sum_in_lowest := ok_sumLow (P := P) (w := w) (mg := mg) (base := base) F6 G_shared b4 F4.kp (glo 12 "shared" rfl)
  have G_merged := ok_merged (P := P) (w := w) (mg := mg) (base := base) F18 G_sum_in_lowest b6 F6.kp (glo 14 "sum_in_lowest" rfl) (free 74 "sorted" rfl) (free 75 "list" rfl) (free 76 "tuple" rfl)
  have G_plus_spPlusA := ok_plusA (P := P) (w := w) (mg := mg) (base := base) F12 T G_need_exact b17 F17.kp (glo 25 "need_exact" rfl) G_merged b18 F18.kp (glo 26 "merged" rfl) G_init bI
  have G_squares_out_spSqBig := ok_sqBig (P := P) (w := w) (mg := mg) (base := base) F8 (glo 2 "PRIMES" rfl) hT2
  have G_root_of := ok_rootQ (P := P) (w := w) (mg := mg) (base := base) F15 T G_need_exact b17 F17.kp (glo 25 "need_exact" rfl) G_squares_out_spSqBig b8 F8.kp (glo 16 "squares_out" rfl) G_lowered b20 F20.kp (glo 28 "lowered" rfl) gi_TOO_LONG (free 77 "len" rfl)
  have G_numbers_at_top := ok_topN (P := P) (w := w) (mg := mg) (base := base) F33 FE G_exact (glo 1 "exact" rfl) G_times_spTimesA b13 F13.kp (glo 21 "times" rfl) G_over b14 F14.kp (glo 22 "over" rfl) G_plus_spPlusA b12 F12.kp (glo 20 "plus" rfl) G_root_of b15 F15.kp (glo 23 "root_of" rfl) (free 78 "range" rfl) (free 81 "max" rfl)
  have G_numbers_below := ok_belowN (P := P) (w := w) (mg := mg) (base := base) F34 FE G_exact (glo 1 "exact" rfl) G_times_spTimesA b13 F13.kp (glo 21 "times" rfl) G_plus_spPlusA b12 F12.kp (glo 20 "plus" rfl) (free 78 "range" rfl) (free 81 "max" rfl) (free 82 "min" rfl)
  have G_ladder := ok_ladder (P := P) (w := w) (mg := mg) (base := base) F25 FE G_exact (glo 1 "exact" rfl) G_need_pairs b29 F29.kp (glo 37 "need_pairs" rfl) G_can_join b30 F30.kp (glo 38 "can_join" rfl) G_numbers_at_top b33 F33.kp (glo 41 "numbers_at_top" rfl) G_numbers_below b34 F34.kp (glo 42 "numbers_below" rfl) (free 78 "range" rfl)
  have G_factorials := ok_facts (P := P) (w := w) (mg := mg) (base := base) F10 (free 78 "range" rfl)
  have G_terms_of_joined := ok_terms (P := P) (w := w) (mg := mg) (base := base) F32 G_factorials b10 F10.kp (glo 18 "factorials" rfl) G_is_odd b9 F9.kp (glo 17 "is_odd" rfl) (free 82 "min" rfl) (free 78 "range" rfl)
  have G_primes_of_factorials := ok_primesF (P := P) (w := w) (mg := mg) (base := base) F11 (glo 2 "PRIMES" rfl) hT (free 81 "max" rfl) (free 78 "range" rfl) (free 79 "reversed" rfl) (free 83 "sum" rfl)
  have G_root_of_factorials := ok_rootF (P := P) (w := w) (mg := mg) (base := base) F16 T G_primes_of_factorials b11 F11.kp (glo 19 "primes_of_factorials" rfl) G_is_odd b9 F9.kp (glo 17 "is_odd" rfl) G_init bI (free 78 "range" rfl)
  have G_times_spTimes := ok_times (P := P) (w := w) (mg := mg) (base := base) F13 T G_need_exact b17 F17.kp (glo 25 "need_exact" rfl) G_on_one_bottom b19 F19.kp (glo 27 "on_one_bottom" rfl) G_products b21 F21.kp (glo 29 "products" rfl) G_lowered b20 F20.kp (glo 28 "lowered" rfl)
  have G_joined_number := ok_joinedN (P := P) (w := w) (mg := mg) (base := base) F31 FE G_exact (glo 1 "exact" rfl) G_can_join b30 F30.kp (glo 38 "can_join" rfl) G_factorials b10 F10.kp (glo 18 "factorials" rfl) G_terms_of_joined b32 F32.kp (glo 40 "terms_of_joined" rfl) G_root_of_factorials b16 F16.kp (glo 24 "root_of_factorials" rfl) G_times_spTimes b13 F13.kp (glo 21 "times" rfl) (free 81 "max" rfl) (free 83 "sum" rfl)
  have G_joined := ok_joined (P := P) (w := w) (mg := mg) (base := base) F24 G_need_pairs b29 F29.kp (glo 37 "need_pairs" rfl) G_joined_number b31 F31.kp (glo 39 "joined_number" rfl)
  have G_eq := ok_eq (P := P) (w := w) (mg := mg) (base := base) FEq T (free 70 "isinstance" rfl)
  have G_law_ladder_right := ok_ladR (P := P) (w := w) (mg := mg) (base := base) F50 T G_law_two b43 F43.kp (glo 51 "_law_two" rfl) G_law_is b44 F44.kp (glo 52 "_law_is" rfl) F25 G_ladder (glo 33 "ladder" rfl) F24 G_joined (glo 32 "joined" rfl) G_eq bEq
  exact ok_law F51 T ⟨G_law_pen, b35, F35.kp, (glo 43 "_law_pen" rfl), G_law_case, b49, F49.kp, (glo 57 "_law_case" rfl), G_law_ladder_right, b50, F50.kp, (glo 58 "_law_ladder_right" rfl), G_law_fits, b45, F45.kp, (glo 53 "_law_fits" rfl), G_ladder, (glo 33 "ladder" rfl), (free 78 "range" rfl), (free 77 "len" rfl), (free 81 "max" rfl), F25⟩
end TC
open PySem PySem.W PySem.Calls PyProof.Rows
set_option maxHeartbeats 0 in
theorem PySem.Challenge.cw_turncouple_k12_whole_ladders_and_sums_holds : PySem.Challenge.rw_turncouple_k12_whole_ladders_and_sums.Holds := by
  refine lookAt fun said => ?_
  refine HandSHeadRun.head_any (r := OpenLaw.row PySem.Challenge.rw_turncouple_k12_whole_ladders_and_sums) (q := view (OpenLaw.row PySem.Challenge.rw_turncouple_k12_whole_ladders_and_sums).prog [71]) (H := TC.hk) (ob := TC.ob) (M := 30000) (loose := TC.loose) (d := HandSHeadRun.topDef (OpenLaw.row PySem.Challenge.rw_turncouple_k12_whole_ladders_and_sums).prog 71) (kwd := []) TC.ob_eq
    (by kernel_rfl) (fun s => by kernel_rfl) TC.run (by kernel_rfl) (by kernel_rfl) (by kernel_rfl) (by rfl) (by first | assumption | decide +kernel) (by decide +kernel) ⟨rfl, rfl, rfl, rfl, rfl, by decide +kernel⟩ ?hw ?hc
  case hw => w_witness2
  case hc =>
    refine TCX.walk_ofG (l := PySem.Challenge.rw_turncouple_k12_whole_ladders_and_sums) (n := 63) (k := 8) (x := "_law_script") (CX := fun _ => L2.CX0) rfl (by decide) (by kernel_rfl) ⟨rfl, by decide, by decide⟩ ?F (fun _ _ _ _ _ z => z)
    intro w mg fa h Y G hmg0
    obtain ⟨K, KX, sx⟩ := Y
    have hmg : mg ("law" : PySem.Str) = some (.ref fa) := by
      have e : (HandSHeadRun.topDef (OpenLaw.row PySem.Challenge.rw_turncouple_k12_whole_ladders_and_sums).prog 71).name = ("law" : PySem.Str) := by kernel_rfl
      rw [← e]
      exact hmg0
    obtain ⟨fd, hb, hF⟩ := TC.facts (P := (PySem.Challenge.rw_turncouple_k12_whole_ladders_and_sums).prog) (w := w) KX G hmg sx
    refine ⟨K, KX, fd, [], TC.spLaw K, fun p hp => (List.not_mem_nil hp).elim, fun p hp => (List.not_mem_nil hp).elim, fun p hp => (List.not_mem_nil hp).elim, hb, fun H a ns hl hT hS => ⟨a, ns, rfl, hS, hl, fun _ => rfl⟩, fun base h1 h2 h3 => hF base h1 h2⟩
