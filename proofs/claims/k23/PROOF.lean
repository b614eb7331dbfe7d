import PyProof.Rows.All
import Wide.All
import OpenK.AllK
import Wide.FinOn
import KE.KIsAll
import KE.KTryMore
import HandS.ForMost
import HandS.ForExc
import HandS.Defaults
import HandS.ExcIs
import HandS.Lambda
import HandS.Codes
import HandS.Conv
import HandS.More
import HandS.Walk
import HandS.EndTab
import HandS.HeadWalk
import PyProof.ReprRoads
import PyProof.ListRange
import HandS.HeadHook1
import HandS.HeadHook2
import HandS.HeadHook3
import HandS.HeadHook4
import PyProof.ReprLen
import HandS.IsInst
import HandS.List
import PyProof.Rows.SumAny
import HandS.TupAny
import KE.KStateDown
import KE.GoesMore
import KE.GoesEnum
import KE.KFmtOwn
import PyProof.InstEq
import HandS.OwnEq
import HandS.Wide
import HandS.WideMore
import HandS.DictComp
import Lean
import HandS.Head0
import HandS.Head1
import HandS.Head2
import HandS.HeadEnd
import HandS.SortInts
import HandS.Star
import HandS.TupMul
import HandS.TupLe
import PySem.Challenge.RW_turncouple_k23_forms_of_sixes
set_option Elab.async false
set_option linter.all false
set_option maxRecDepth 100000
set_option maxHeartbeats 4000000
/-! Exceptions that are caught, kept in a name and asked of later. -/
namespace TCX
open PySem PySem.Spec PyProof.Rows L2
/-! ### a clause that names five classes -/
section
open PySem.W
variable {M : Model} {K : Frag}
theorem exm_tup5 {c1 c2 c3 c4 c5 cls : Value} {tp e : Addr} {b : Bool} {h : Heap} (X : K.In h) (LT : Looks M h (typeOf (.ref e)) cls) (hp : h.get? tp = some { cls := .type "tuple", data := .seq [c1, c2, c3, c4, c5].toArray }) (hx : exmAny K cls [c1, c2, c3, c4, c5] = some b) :
    Looks M h (excMatches (.ref e) (.ref tp)) b := by
  intro A Q E s k₀ q
  obtain ⟨hh, g, d, tk, os⟩ := s
  have k : ∀ b o, h.get? b = some o → hh.get? b = some o := k₀
  have T0 : Looks M h (isInstance (.ref tp) (.type "tuple")) true := ((Looks.ld hp).andThen .now).andThen (Looks.of_pure isSubtype_tuple_tuple)
  have T1 := T0.keeps k
  have TY := LT.keeps k
  have hp' := k _ _ hp
  obtain ⟨b1, d1, x1, y1, z1⟩ := exmAny_cons hx
  obtain ⟨b2, d2, x2, y2, z2⟩ := exmAny_cons y1
  obtain ⟨b3, d3, x3, y3, z3⟩ := exmAny_cons y2
  obtain ⟨b4, d4, x4, y4, z4⟩ := exmAny_cons y3
  obtain ⟨b5, d5, x5, y5, z5⟩ := exmAny_cons y4
  have u1 := (exm_cls (M := M) X x1).1.keeps k
  have v1 := (exm_cls (M := M) X x1).2.keeps k
  have u2 := (exm_cls (M := M) X x2).1.keeps k
  have v2 := (exm_cls (M := M) X x2).2.keeps k
  have u3 := (exm_cls (M := M) X x3).1.keeps k
  have v3 := (exm_cls (M := M) X x3).2.keeps k
  have u4 := (exm_cls (M := M) X x4).1.keeps k
  have v4 := (exm_cls (M := M) X x4).2.keeps k
  have u5 := (exm_cls (M := M) X x5).1.keeps k
  have v5 := (exm_cls (M := M) X x5).2.keeps k
  have w5 : some false = some d5 := y5
  cases w5
  subst z1 z2 z3 z4 z5
  unfold excMatches
  refine wpAny_bind (T1.at ?_)
  dsimp only
  rw [if_pos rfl]
  first
    | refine wpAny_bind (wpAny_seqItems hp' rfl ?_)
    | refine wpAny_bind (wpAny_bind (wpAny_seqItems hp' rfl (wpAny_pure ?_)))
  dsimp only [Option.getD_some, Option.getD]
  cases b1 <;> cases b2 <;> cases b3 <;> cases b4 <;> cases b5 <;> ((repeat (first | simp only [List.forIn_cons, List.forIn_nil, Bool.not_true, Bool.false_eq_true, if_false, if_true] | lk)); exact q)
end
/-- the test t of a clause, asked while an exception of the class cls is handled: it says b -/
def Tst (X : Cx) (t : Expr) (cls : Value) (b : Bool) : Prop :=
  ∀ (a : Addr) (oe : Obj) (pn : List (Addr × Obj)) (σ : L2.St) (H : Hp) (s : Shared) (Q : Bool → Shared → Prop) (E : Value → Shared → Prop),
    Inv (X.suite a ((a, oe) :: pn)) [] σ H s → oe.cls = cls → (∀ h', (∀ q o, s.heap.get? q = some o → h'.get? q = some o) → Q b { s with heap := h' }) →
    wpAny (model X.prog X.w) (X.A.mark (some (.ref a))) (eval t X.env) (fun c s₁ => wpAny (model X.prog X.w) (X.A.mark (some (.ref a))) (excMatches (.ref a) c) Q E s₁) E s
section
variable {X : Cx}
theorem suite_ty {a : Addr} {oe : Obj} {pn : List (Addr × Obj)} {σ : L2.St} {H : Hp} {s : Shared} (I : Inv (X.suite a ((a, oe) :: pn)) [] σ H s) : PySem.W.Looks (model X.prog X.w) s.heap (typeOf (.ref a)) oe.cls := by
  obtain ⟨hget, _⟩ := I.pin (a, oe) (List.mem_append.mpr (.inl List.mem_cons_self))
  exact fun A Q E s k q => wpAny_typeOf_ref (k _ _ hget) q
theorem ld_names {a : Addr} {oe : Obj} {pn : List (Addr × Obj)} {σ : L2.St} {H : Hp} {s : Shared} {x : Str} {c : Value} {np : Pos} {Q : Value → Shared → Prop} {E : Value → Shared → Prop} (hc : Names X x c) (I : Inv (X.suite a ((a, oe) :: pn)) [] σ H s) (q : Q c s) :
    wpAny (model X.prog X.w) (X.A.mark (some (.ref a))) (eval (.Name x np) X.env) Q E s := by
  obtain ⟨hg, hdbg, hm | ⟨hm, hv, hnn⟩⟩ := hc
  · exact ld_glob (X := X.suite a ((a, oe) :: pn)) I hg hm q hdbg
  · exact ld_blt (X := X.suite a ((a, oe) :: pn)) I hg hm hv q hnn hdbg
theorem tst_name {x : Str} {c cls : Value} {np : Pos} {b : Bool} (hc : Names X x c) (he : PySem.W.exmOne X.K cls c = some b) : Tst X (.Name x np) cls b := by
  intro a oe pn σ H s Q E I e q
  subst e
  exact ld_names hc I ((PySem.W.exm_one I.kIn (suite_ty I) he).here (q s.heap fun _ _ z => z))
theorem tst_tup4 {x1 x2 x3 x4 : Str} {c1 c2 c3 c4 cls : Value} {p1 p2 p3 p4 tpos : Pos} {kk : Nat} {b : Bool} (n1 : Names X x1 c1) (n2 : Names X x2 c2) (n3 : Names X x3 c3) (n4 : Names X x4 c4) (he : PySem.W.exmAny X.K cls [c1, c2, c3, c4] = some b) :
    Tst X (.Tuple [.Name x1 p1, .Name x2 p2, .Name x3 p3, .Name x4 p4] kk tpos) cls b := by
  intro a oe pn σ H s Q E I e q
  subst e
  refine wpAny_Tuple ?_
  refine wpAny_items_cons (ld_names n1 I ?_)
  refine wpAny_items_cons (ld_names n2 I ?_)
  refine wpAny_items_cons (ld_names n3 I ?_)
  refine wpAny_items_cons (ld_names n4 I ?_)
  refine wpAny_items_nil ⟨by size_fits, ?_⟩
  have kp : ∀ q o, s.heap.get? q = some o → (s.heap.push { cls := .type "tuple", data := .seq [c1, c2, c3, c4].toArray }).get? q = some o := fun _ _ z => Heap.get?_push_of_some _ z
  exact (PySem.W.exm_tup4 (I.kIn.keeps kp) ((suite_ty I).keeps kp) (Heap.get?_push_size s.heap rfl) he).here (q _ kp)
theorem tst_tup5 {x1 x2 x3 x4 x5 : Str} {c1 c2 c3 c4 c5 cls : Value} {p1 p2 p3 p4 p5 tpos : Pos} {kk : Nat} {b : Bool} (n1 : Names X x1 c1) (n2 : Names X x2 c2) (n3 : Names X x3 c3) (n4 : Names X x4 c4) (n5 : Names X x5 c5) (he : PySem.W.exmAny X.K cls [c1, c2, c3, c4, c5] = some b) :
    Tst X (.Tuple [.Name x1 p1, .Name x2 p2, .Name x3 p3, .Name x4 p4, .Name x5 p5] kk tpos) cls b := by
  intro a oe pn σ H s Q E I e q
  subst e
  refine wpAny_Tuple ?_
  refine wpAny_items_cons (ld_names n1 I ?_)
  refine wpAny_items_cons (ld_names n2 I ?_)
  refine wpAny_items_cons (ld_names n3 I ?_)
  refine wpAny_items_cons (ld_names n4 I ?_)
  refine wpAny_items_cons (ld_names n5 I ?_)
  refine wpAny_items_nil ⟨by size_fits, ?_⟩
  have kp : ∀ q o, s.heap.get? q = some o → (s.heap.push { cls := .type "tuple", data := .seq [c1, c2, c3, c4, c5].toArray }).get? q = some o := fun _ _ z => Heap.get?_push_of_some _ z
  exact (exm_tup5 (I.kIn.keeps kp) ((suite_ty I).keeps kp) (Heap.get?_push_size s.heap rfl) he).here (q _ kp)
end
/-! ### a caught exception that is tracked from now on -/
/-- at a stands an exception of the class cls, its own dict d -/
def ExV (cls : Value) (d : Option Addr) (a : Addr) : HO := .ext fun h => ∃ (oe : Obj) (vs : Array Value), h.get? a = some oe ∧ Zc cls d oe ∧ oe.data = .fields vs
theorem exV_ok {P : Program} {w : World} {H : Hp} {h : Heap} {a : Addr} {cls : Value} {d : Option Addr} {oe : Obj} {vs : Array Value} (e : h.get? a = some oe) (z : Zc cls d oe) (hd : oe.data = .fields vs) : ObjOk P w H h a (ExV cls d a) :=
  ⟨⟨oe, vs, e, z, hd⟩, ⟨oe, e⟩, fun _ _ ⟨o, v, q, r⟩ k => ⟨o, v, k o q, r⟩⟩
theorem flyZ_keeps {B h h' : Heap} {l : List Env} {e : Addr} {Z : Obj → Prop} (R : HandSPX.FlyingZ B l e Z h) (k : ∀ b o, h.get? b = some o → h'.get? b = some o) : HandSPX.FlyingZ B l e Z h' := by
  obtain ⟨f1, f2, f3, oe, ws, T, oT, ts, he, hz, hd, h1, hn, hne, hT, hdT, h3⟩ := R
  exact ⟨fun b o q => k b o (f1 b o q), f2, f3.of_keeps fun b o q _ => ⟨o, k b o q, rfl⟩, oe, ws, T, oT, ts, k _ _ he, hz, hd, h1, hn, hne, k _ _ hT, hdT, h3⟩
section
variable {X : Cx} {pins : List (Addr × Obj)} {σ : L2.St} {H : Hp} {s : Shared}
theorem Inv_track {a : Addr} {cls : Value} {d : Option Addr} {oe : Obj} {vs : Array Value} (I : Inv X pins σ H s) (h0 : X.s_0.heap.get? a = none) (na : H a = none) (he : s.heap.get? a = some oe) (hz : Zc cls d oe) (hd : oe.data = .fields vs) (nL : a ≠ X.env.locals) (nP : ∀ p ∈ X.pn ++ pins, p.1 ≠ a) :
    Inv X pins σ (upd H a (ExV cls d a)) s := by
  have nS : ∀ b u, H b = some u → b ≠ a := fun b u e => ne_of_none e na
  refine ⟨I.ok, I.os, I.bare, ⟨I.base.keep, I.base.slot, fun b o e n hx => ?_, I.base.there, fun b xs e => ?_, fun b o u e => ?_, fun b ps e => ?_⟩, I.loc, I.cell, ?_, fun x c e => ?_, fun p hp => ?_, fun b u e => ?_, I.len⟩
  · rw [upd_ne (fun z => by rw [z, h0] at e; cases e)]
    exact I.base.free b o e n hx
  · have q := I.base.tups b xs e
    rw [upd_ne (nS _ _ q)]
    exact q
  · have q := I.base.frzs b o u e
    rw [upd_ne (nS _ _ q)]
    exact q
  · obtain ⟨m, q⟩ := I.base.tbls b ps e
    exact ⟨m, by rw [upd_ne (nS _ _ q)]; exact q⟩
  · rw [upd_ne (Ne.symm nL)]
    exact I.free
  · obtain ⟨v, o, ho, hdc⟩ := I.cell x c e
    rw [upd_ne (fun z => by
      rw [z, he] at ho
      cases ho
      rw [hd] at hdc
      cases hdc)]
    exact I.freeC x c e
  · obtain ⟨e, n, ne, nf, dd⟩ := I.pin p hp
    exact ⟨e, by rw [upd_ne (nP p hp)]; exact n, ne, nf, dd⟩
  · by_cases hb : b = a
    · subst hb
      rw [upd_same] at e
      cases e
      exact exV_ok he hz hd
    · rw [upd_ne hb] at e
      exact (I.hok b u e).stay (fun c v _ q => q) (fun c q => by rw [upd_ne (nS _ _ q)]; exact q) fun c xs q => by rw [upd_ne (nS _ _ q)]; exact q
theorem Inv_suite0 {a : Addr} (I : Inv X pins σ H s) : Inv (X.suite a (X.pn ++ pins)) [] σ H s :=
  ⟨I.ok.suite _ _, I.os, I.bare, I.base, I.loc, I.cell, I.free, I.freeC, fun p hp => I.pin p (by rw [List.append_nil] at hp; exact hp), I.hok, I.len⟩
theorem Inv_unsuite0 {a : Addr} {pn' : List (Addr × Obj)} (I : Inv (X.suite a (X.pn ++ pins)) pn' σ H s) (ok : X.Ok) : Inv X pins σ H s :=
  ⟨ok, I.os, I.bare, I.base, I.loc, I.cell, I.free, I.freeC, fun p hp => I.pin p (List.mem_append_left _ hp), I.hok, I.len⟩
end
/-- the ends of a suite whose name's slot i is emptied behind it -/
def endsAs (i : Nat) (D : Ends) : Ends := { nx := fun σ' H' => D.nx (σ'.set i none) H', rt := D.rt, bk := fun σ' H' => D.bk (σ'.set i none) H', ct := fun σ' H' => D.ct (σ'.set i none) H' }
/-- what the clauses wish: each has its classes, its name's slot, its suite -/
def wKeep (K : PySem.W.Frag) (D : Ends) : List (List Value × Nat × (Addr → Value → Option Addr → TS)) → WX
  | [] => fun _ _ _ _ => False
  | (cs, i, ts) :: r => fun cls d σ H => ∃ b, PySem.W.exmAny K cls cs = some b ∧ (b = true → ∀ a, H a = none → ts a cls d (endsAs i D) (σ.set i (some (.ref a))) (upd H a (ExV cls d a))) ∧ (b = false → wKeep K D r cls d σ H)
inductive HdK (X : Cx) : List ExceptHandler → List (List Value × Nat × (Addr → Value → Option Addr → TS)) → Prop
  | nil : HdK X [] []
  | cons {t : Expr} {n : Str} {i : Nat} {cs : List Value} {ts : Addr → Value → Option Addr → TS} {b₀ : Stmt} {suite : List Stmt} {pos' : Pos} {hds : List ExceptHandler} {l : List (List Value × Nat × (Addr → Value → Option Addr → TS))}
      (ht : ∀ cls b, PySem.W.exmAny X.K cls cs = some b → Tst X t cls b) (hi : X.N[i]? = some n) (hln : X.env.kindOf n = some .local)
      (hsu : ∀ (a : Addr) (cls : Value) (d : Option Addr) (pn : List (Addr × Obj)), PSs (X.suite a pn) (b₀ :: suite) (ts a cls d)) (r : HdK X hds l) :
      HdK X (.ExceptHandler (some t) (some n) (b₀ :: suite) pos' :: hds) ((cs, i, ts) :: l)
section
variable {X : Cx} {body : List Stmt} {h₀ : ExceptHandler} {hds : List ExceptHandler} {l : List (List Value × Nat × (Addr → Value → Option Addr → TS))} {pos : Pos} {tb : WX → TS}
theorem ps_try_keep (hs : X.stack = X.env :: X.outer) (hf : X.env.frame = some X.env.locals) (hex : X.ex = []) (hN : X.N.Nodup)
    (hb : ∀ (W : WX) (pn : List (Addr × Obj)) (xe : Value → Shared → Prop), Takes (X.tr pn xe) W → PassesOwn (model X.prog X.w) X.A X.env xe → PSs (X.tr pn xe) body (tb W))
    (hh : HdK X (h₀ :: hds) l) : PS X (.Try body (h₀ :: hds) [] [] pos) (fun D σ H => tb (fun cls d σ' H' => σ'.length = X.N.length → wKeep X.K D l cls d σ' H') D σ H) := by
  refine ⟨fun pins s σ H D I h => ?_⟩
  have ok := I.ok
  have hfr : X.A.frames = some (X.env :: X.outer) := by rw [ok.frames, hs]
  refine wpAny_Try_except ?_
  refine wpAny_mono ((hb (fun cls d σ' H' => σ'.length = X.N.length → wKeep X.K D l cls d σ' H') (X.pn ++ pins) (fun e s₁ => wpAny (model X.prog X.w) X.A (noteFrame e X.env) (fun _ s₂ => wpAny (model X.prog X.w) X.A (setFlight e none) (fun _ s₃ =>
    wpAny (model X.prog X.w) X.A (handleBy e X.env (h₀ :: hds)) (SP X pins D) X.xe s₃) X.xe s₂) X.xe s₁) (fun u s' xx => ?_) PassesOwn.looking).run [] s σ H D (I.toTry _) h) (fun f s1 hsp => ?_) (fun e s1 he => he)
  · obtain ⟨a, B, sI, pins', σ', H', cls, d, rfl, J', nb, up, sky, na, os, ag, w⟩ := xx
    have J : Inv X pins σ' H' sI := J'.ofTry ok
    have sky' : Sky B (X.env :: X.outer) a (Zc cls d) X.env.locals s'.heap := by rw [← hs]; exact sky
    show wpAny (model X.prog X.w) X.A (noteFrame (.ref a) X.env) _ _ _
    refine Sky.land Zc.steady hfr hf sky' fun h3 fl3 up3 => ?_
    have notFr : ∀ {h : Heap} {o : Obj} {vs : Array Value}, h.FunFrames B (X.env :: X.outer) → h.get? a = some o → o.data = .fields vs → a ∉ frs (X.env :: X.outer) := fun {h o vs} ff e dd hm => by
      obtain ⟨_, o', e', hnf⟩ := ff.mem hm
      rw [e] at e'; cases e'
      exact hnf _ dd
    have nfr : a ∉ frs (X.env :: X.outer) := by
      obtain ⟨oe3, vs3, he3, hz3, hd3⟩ := fl3.there
      exact notFr fl3.2.2.1 he3 hd3
    have nL : a ≠ X.env.locals := fun z => nfr (List.mem_filterMap.mpr ⟨X.env, List.mem_cons_self, by rw [hf, z]⟩)
    have nF : a ∉ X.fs := fun hm => by
      obtain ⟨e, he, q⟩ := List.mem_filterMap.mp hm
      exact nfr (List.mem_filterMap.mpr ⟨e, List.mem_cons_of_mem _ he, q⟩)
    have nI : sI.heap.get? a = none := by
      cases e : sI.heap.get? a with
      | none => rfl
      | some o =>
        have z := nb a o e (by rw [hs]; exact nfr)
        rw [fl3.2.1] at z
        cases z
    have n0 : X.s_0.heap.get? a = none := by
      cases e : X.s_0.heap.get? a with
      | none => rfl
      | some o =>
        obtain ⟨o', z⟩ := J.base.there a o e (by rw [hex]; exact fun z => nomatch z)
        rw [nI] at z
        cases z
    have nP : ∀ p ∈ X.pn ++ pins, p.1 ≠ a := fun p hp z => by
      obtain ⟨e, _⟩ := J.pin p hp
      rw [z, nI] at e
      cases e
    have go : ∀ {hds' : List ExceptHandler} {l' : List (List Value × Nat × (Addr → Value → Option Addr → TS))}, HdK X hds' l' → wKeep X.K D l' cls d σ' H' → ∀ h3 : Heap, HandSPX.FlyingZ B (X.env :: X.outer) a (Zc cls d) h3 → sI.heap.UpToSlots h3 →
        wpAny (model X.prog X.w) X.A (handleBy (.ref a) X.env hds') (SP X pins D) X.xe { s' with heap := h3 } := by
      intro hds' l' hk
      induction hk with
      | nil =>
        intro w
        exact w.elim
      | @cons t n i cs ts b₀ suite pos' hds2 l2 ht hi hln hsu r ih =>
        intro w h3 fl3 up3
        obtain ⟨b, hb1, hyes, hno⟩ := w
        have J3 : Inv X pins σ' H' { s' with heap := h3 } := J.landed nb fl3.1 up3 os ag
        obtain ⟨oe3, vs3, he3, hz3, hd3⟩ := fl3.there
        have S3 := J3.suite he3 hd3 na nL nF
        refine wpAny_handleBy_cons (codeAny_handlers_test (ht cls b hb1 a oe3 _ _ _ _ _ _ S3 hz3.1 fun h4 kp => ?_)) (by intro q; cases q)
        have fl4 := flyZ_keeps fl3 kp
        have up4 : sI.heap.UpToSlots h4 := up3.trans (Heap.UpToSlots.of_keeps kp)
        cases b with
        | true =>
          refine codeAny_handlers_suite_as ?_
          refine HandSPX.lands_againZ (s := { s' with heap := h4 }) fl4 fun h5 fl5 up5 => ?_
          have J5 : Inv X pins σ' H' { s' with heap := h5 } := J.landed nb fl5.1 (up4.trans up5) os ag
          obtain ⟨oe5, vs5, he5, hz5, hd5⟩ := fl5.there
          have K5 : Inv X pins σ' (upd H' a (ExV cls d a)) { s' with heap := h5 } := Inv_track J5 n0 na he5 hz5 hd5 nL nP
          have S5 : Inv (X.suite a (X.pn ++ pins)) [] σ' (upd H' a (ExV cls d a)) { s' with heap := h5 } := Inv_suite0 K5
          refine store_ok (X := X.suite a (X.pn ++ pins)) (v := .ref a) S5 hN hi (.inl hln) rfl (fun s6 S6 => ?_) (.inr hln)
          refine wpAny_mono ((hsu a cls d (X.pn ++ pins)).run [] s6 _ _ _ S6 (hyes rfl a na)) (fun f s7 hsp => ?_) (fun _ _ z => False.elim z)
          have end_ : ∀ {σ6 : L2.St} {H6 : Hp} {Q : Shared → Prop}, Inv (X.suite a (X.pn ++ pins)) [] σ6 H6 s7 → (∀ s8, Inv X pins (σ6.set i none) H6 s8 → Q s8) →
              wpAny (model X.prog X.w) X.A (do bindName X.env n .none; unbindBehindTheSuite X.env n pos') (fun _ s8 => Q s8) X.xe s7 := fun {σ6 H6 Q} S6 hq => gone_ok (Inv_unsuite0 S6 ok) hN hi hln hq
          cases f with
          | next =>
            obtain ⟨σ6, H6, S6, q6⟩ := hsp
            exact end_ S6 fun s7 J7 => ⟨_, _, J7, q6⟩
          | brk =>
            obtain ⟨σ6, H6, S6, q6⟩ := hsp
            exact end_ S6 fun s7 J7 => ⟨_, _, J7, q6⟩
          | cont =>
            obtain ⟨σ6, H6, S6, q6⟩ := hsp
            exact end_ S6 fun s7 J7 => ⟨_, _, J7, q6⟩
          | ret u =>
            obtain ⟨v6, σ6, H6, S6, r6, q6⟩ := hsp
            exact end_ S6 fun s7 J7 => ⟨_, _, _, J7, r6, q6⟩
        | false =>
          show wpAny _ X.A (handleBy (.ref a) X.env hds2) _ _ _
          exact ih (hno rfl) h4 fl4 up4
    exact go hh (w J.len) h3 fl3 (up.trans up3)
  · cases f with
    | next =>
      obtain ⟨σ', H', J', q⟩ := hsp
      exact wpAny_execs_nil ⟨σ', H', J'.ofTry ok, q⟩
    | brk =>
      obtain ⟨σ', H', J', q⟩ := hsp
      exact ⟨σ', H', J'.ofTry ok, q⟩
    | cont =>
      obtain ⟨σ', H', J', q⟩ := hsp
      exact ⟨σ', H', J'.ofTry ok, q⟩
    | ret u =>
      obtain ⟨v, σ', H', J', r, q⟩ := hsp
      exact ⟨v, σ', H', J'.ofTry ok, r, q⟩
end
/-! ### isinstance of it -/
section
variable {X : Cx}
/-- isinstance(e, c), e a kept exception of an own class without fields -/
def rIsV (K : PySem.W.Frag) : List V → Hp → VK → Prop := fun xs H Q => ∃ (a D : Addr) (c : V) (cv : Value) (b : Bool), xs = [.ref a, c] ∧ H a = some (ExV (.ref D) none a) ∧ ExcC K D ∧ (∀ u, RelV c u → u = cv) ∧ PySem.W.kitOne K (.ref D) cv = some b ∧ Q (.bl b) H
theorem inst_of {pins : List (Addr × Obj)} {σ : L2.St} {H : Hp} {s : Shared} {a D : Addr} (I : Inv X pins σ H s) (h : H a = some (ExV (.ref D) none a)) : ∃ oe, PySem.W.InstAt s.heap a oe D none := by
  obtain ⟨⟨oe, vs, hget, hz, hv⟩, _, _⟩ := I.hok a _ h
  refine ⟨oe, ?_⟩
  obtain ⟨oc, od, oda, osl⟩ := oe
  obtain ⟨h1, h2⟩ := hz
  dsimp only at h1 h2 hv
  subst h1 h2 hv
  exact ⟨hget, rfl, rfl, trivial⟩
theorem call_isV : CallR X (.builtin "isinstance") (rIsV X.K) := by
  intro pins s σ H xs us Q I r h
  obtain ⟨a, D, c, cv, b, rfl, hH, C, hcv, e, q⟩ := h
  cases r with
  | cons rx rr =>
    cases rr with
    | cons rt rr =>
      cases rr
      cases rx
      have ec := hcv _ rt
      subst ec
      obtain ⟨oe, J⟩ := inst_of I hH
      exact PySem.W.kia_one (PySem.W.handS_kitx_exc C.hg C.hk C.hs C.hd C.ha C.hn C.ht C.hm) I.kIn J e (fun z => nomatch z) fun tk => ⟨.bl b, H, I.kept (t' := tk) fun _ _ z => z, rfl, q⟩
/-- xs.count(y), flat items -/
def rCount (K : PySem.W.Frag) : V → List V → Hp → VK → Prop := fun x xs H Q => ∃ (a : Addr) (ys : List V) (y : V), x = V.ref a ∧ xs = [y] ∧ SqL K H a ys ∧ flatV y = true ∧ ys.all flatV = true ∧ Q (.int ((ys.countP fun z => eqV z y : Nat) : Int)) H
theorem count_eqU {y : V} : ∀ {xs : List V} {us : List Value}, Vals xs us → xs.all flatV = true → us.countP (eqU y) = xs.countP fun z => eqV z y
  | _, _, .nil, _ => rfl
  | x :: xs, u :: us, .cons r t, f => by
    rw [List.all_cons, Bool.and_eq_true] at f
    rw [List.countP_cons, List.countP_cons, eqU_of r f.1, count_eqU t f.2]
theorem mt_count : MtR X "list.count" (rCount X.K) := by
  intro pins s σ H x xs v us Q I rx rxs h
  obtain ⟨a, ys, y, rfl, rfl, hs, fy, fys, q⟩ := h
  cases rx
  cases rxs with
  | cons ry rt =>
    rename_i uy ut
    cases rt
    obtain ⟨its, rv, ⟨⟨cls, dd, data, sl⟩, n, ho, hc, hdn, hd⟩, hlen⟩ := I.list hs
    simp only at hc hd
    subst hc hd
    refine call_meets PySem.F.slot_list_count ⟨_, ho, rfl⟩ PySem.F.entry_list_count (PySem.F.args_list_count_2 _ _)
      (SeqAt.list_countAt a its.toArray n dd sl uy (eqU y)) ⟨ho, fun u' hu' => mem_eqAt ry fy rv fys u' (by simpa using hu'), ?_⟩
    have ec : its.toArray.toList.countP (eqU y) = ys.countP fun z => eqV z y := count_eqU rv fys
    refine ⟨.int ((ys.countP fun z => eqV z y : Nat) : Int), H, I.tok _, ⟨s.toks, ?_⟩, q⟩
    rw [ec]
end
end TCX
/-! Defs that ask repr of lists and tuples: the guards of the calls around are told. -/
namespace TCX
open PySem PySem.Spec PyProof.Rows L2
/-- FnOk where no repr is under way -/
structure FnG (P : Program) (w : World) (K : PySem.W.Frag) (mg : Str → Option Value) (base : Heap) (CX : CXT) (k : Nat) (f : Addr) (fd : FuncData) (ps : List Str) (sp : Sp) : Prop where
  glen : ∀ vs H Q E, sp vs H Q E → vs.length = ps.length
  grun : ∀ (A : Around) (outer : List Env) (s : Shared) (H : Hp) (args : Args) (us : List Value) (vs : List V) (Q : VK) (E : XK), A.guards = some [] → Room k A → Env0 P w K mg base A outer s H → BindsTo s fd args (ps.zip us) → Vals vs us → sp vs H Q E →
    codeAny (model P w) A (.call (.ref f) args) (CR CX outer P w H s Q E) s
section
variable {P : Program} {w : World} {K : PySem.W.Frag} {mg : Str → Option Value} {base : Heap} {x qual : Str} {params : Arguments} {body : List Stmt} {scope : Scope} {dvs : List V} {kws : List (Str × V)} {f : Addr} {fd : FuncData} {CX : CXT} {N ps : List Str} {k : Nat} {sp : Sp}
theorem okG (F : FunD K x qual params body scope dvs kws f fd) (S : FnScope N ps scope) (len : ∀ vs H Q E, sp vs H Q E → vs.length = ps.length)
    (hbody : ∀ (cdv : Value) (A : Around) (outer : List Env) (s : Shared) (H : Hp) (vs : List V) (Q : VK) (E : XK), A.guards = some [] → Room k (A.deeper (envOfC qual scope s.heap.objs.size f cdv)) → sp vs H Q E →
      ∃ t, PSs (cxOf CX P w K mg base N qual scope f cdv A outer s H E) body t ∧ t { nx := fun _ H' => Q .non H', rt := Q } (L2.start N vs) H) : FnG P w K mg base CX (k + 1) f fd ps sp := by
  obtain ⟨oc, od, dV, kV, doc, pm, an, cdv, ct, osl, rfl, lk, hcd, _, _⟩ := F.ex
  exact ⟨len, fun A outer s H args us vs Q E hg hr e0 hb r hsp => LamX.run_ofS lk hcd S hr e0 hb r (len _ _ _ _ hsp) fun hr' => hbody cdv A outer s H vs Q E hg hr' hsp⟩
end
section
variable {X : Cx} {CX : CXT} {k : Nat} {f : Addr} {fd : FuncData} {ps : List Str} {sp : Sp} {E : XK} {x : Str} {p pos : Pos} {e : Expr} {es : List Expr} {t : TA} {dvs : List V} {ds : List Value}
/-- f(e, ..) of such a def -/
theorem pe_callG (F : FnG X.prog X.w X.K X.mg X.base CX k f fd ps sp) (hG : X.A.guards = some []) (hr : Room k X.A) (hg : Gl X x) (hm : X.mg x = some (.ref f)) (hk : PySem.W.keepIn X.K (.ref f) = true) (hb : L2.Binds X.K fd ps ds) (hd : Vals dvs ds) (hx : Passes CX X E)
    (ha : PA X (e :: es) t) (hdb : (x == ("__debug__" : Str)) = false := by decide) (he : starEach (e :: es) X.env = (false, eval e X.env) :: starEach es X.env := by rfl) (hpl : (backTo pos (starEach es X.env)).any (·.1) = false := by rfl) :
    PE X (.Call (.Name x p) (e :: es) [] pos) (tCall sp dvs E t) := by
  refine ⟨fun pins s σ H Q I h => wpAny_Call_Name_kw (ld_glob I hg hm ?_ hdb)⟩
  refine PySem.W.callWith_K (h₀ := X.base) I.ok.mod.kin hk (thn (ha.run pos pins s σ H _ I h) fun us s1 z => ?_) he hpl
  obtain ⟨vs, H1, I1, r, q⟩ := z
  refine ⟨I1.kIn, wpAny_call (codeAny_mono (F.grun X.A X.stack s1 H1 ⟨us, []⟩ (us ++ ds) (vs ++ dvs) Q E hG hr I1.env0 (hb s1 us I1.kIn ?_) (r.append hd) q) fun y s' hq => ?_)⟩
  · rw [← (r.append hd).length]
    exact F.glen _ _ _ _ q
  · match y, hq with
    | .error u, hq => exact hx pins σ H1 s1 u s' I1 hq
    | .ok (.ret u), hq => exact I1.after hq
    | .ok .next, hq => exact False.elim hq
    | .ok .brk, hq => exact False.elim hq
    | .ok .cont, hq => exact False.elim hq
/-- repr(x) of lists and tuples of data -/
theorem call_reprD (hG : X.A.guards = some []) (hu : X.A.units + 64 < cLine) : CallR X (.builtin "repr") (fun xs H Q => ∃ (a : Addr) (d : PyData), xs = [.ref a] ∧ Dp X.K H (.ref a) d ∧ d.showable = true ∧ d.hasDict = false ∧ d.depth ≤ 60 ∧ d.shown.length ≤ sizeLine ∧ Q (.str d.shown) H) := by
  intro pins s σ H xs us Q I r h
  obtain ⟨a, d, rfl, hd, hs, hn, hdp, hz, q⟩ := h
  rw [Vals.ref1 r]
  obtain ⟨as, hr⟩ := Dp.reads I d (.ref a) (.ref a) hd rfl
  exact repr_of_reads' hr hs (fun z => by rw [hn] at z; cases z) hG (by omega) (fun _ _ z => z) (fun h' u tk hk => ⟨.str d.shown, H, I.kept (t' := tk) hk, ⟨u, rfl⟩, q⟩) hz
theorem call_reprB : CallR X (.builtin "repr") (fun xs H Q => ∃ b : Bool, xs = [.bl b] ∧ Q (.str (if b then "True" else "False")) H) := by
  intro pins s σ H xs us Q I r h
  obtain ⟨b, rfl, q⟩ := h
  obtain ⟨u, rfl, rfl⟩ := vals1 r
  exact P.repr_of_bool ⟨.str (if b then "True" else "False"), H, I.tok _, ⟨_, rfl⟩, q⟩
end
/-! ### list(range(a, b, 2)) -/
theorem size2 {a b : Int} {n : Nat} (h : a < b) (hn : (b - a - 1) / 2 + 1 = n) : Builtin.Range.rangeSize a b 2 = n := by
  unfold Builtin.Range.rangeSize
  rw [if_pos (by decide), if_pos h, hn]
theorem size2_0 {a b : Int} (h : ¬ a < b) : Builtin.Range.rangeSize a b 2 = (0 : Nat) := by
  unfold Builtin.Range.rangeSize
  rw [if_pos (by decide), if_neg h]
  rfl
theorem small2 {a b : Int} (ha : -100000 ≤ a) (ha' : a < 100000) (hb : -100000 ≤ b) (hb' : b < 100000) : Builtin.Range.small a b 2 = true := by
  unfold Builtin.Range.small
  by_cases h : a < b
  · rw [size2 (n := ((b - a - 1) / 2 + 1).toNat) h (by omega)]
    simp only [Builtin.Range.rangeFitsLong, Bool.and_eq_true, Bool.or_eq_true, decide_eq_true_eq, beq_iff_eq, show (2 : Int) > 0 by decide, if_true]
    omega
  · rw [size2_0 h]
    simp only [Builtin.Range.rangeFitsLong, Bool.and_eq_true, Bool.or_eq_true, decide_eq_true_eq, beq_iff_eq, show (2 : Int) > 0 by decide, if_true]
    omega
/-- a, a + 2, .. : n of them -/
def upV (a : Int) (n : Nat) : List V := (List.range n).map fun i => V.int (a + (i : Nat) * 2)
theorem upV_length (a : Int) (n : Nat) : (upV a n).length = n := by rw [upV, List.length_map, List.length_range]
section
variable {X : Cx} {a b : Expr} {ta : TA}
def tLst2 (ta : TA) : TE := fun σ H Q => ta σ H fun vs H1 => ∃ (i j : Int) (n : Nat), vs = [.int i, .int j, .int 2] ∧ -100000 ≤ i ∧ i < 100000 ∧ -100000 ≤ j ∧ j < 100000 ∧ Builtin.Range.rangeSize i j 2 = n ∧ ∀ q, H1 q = none → Q (.ref q) (upd H1 q (.lst (upV i n)))
theorem pe_list2 {c : Expr} {p pos p2 pos2 : Pos} (hc : X.calm = true) (hgl : Gl X "list") (hml : X.mg "list" = none) (hgr : Gl X "range") (hmr : X.mg "range" = none) (ha : PA X [a, b, c] ta)
    (hs : starEach [a, b, c] X.env = (false, eval a X.env) :: starEach [b, c] X.env := by rfl) (hpl : (backTo pos2 (starEach [b, c] X.env)).any (·.1) = false := by rfl)
    (hs2 : starEach [Expr.Call (.Name "range" p2) [a, b, c] [] pos2] X.env = (false, eval (.Call (.Name "range" p2) [a, b, c] [] pos2) X.env) :: starEach [] X.env := by rfl) :
    PE X (.Call (.Name "list" p) [.Call (.Name "range" p2) [a, b, c] [] pos2] [] pos) (tLst2 ta) := by
  refine ⟨fun pins s σ H Q I h => ?_⟩
  refine Call_ (ld_blt I hgl hml boot_list (PyProof.Rows.callWith_type1 (args_cons ?_ hs2) hs2))
  refine Call_ (ld_blt I hgr hmr boot_range (PyProof.Rows.callWith_type1 (thn (ha.run pos2 pins s σ H _ I h) fun us s1 z => ?_) hs hpl))
  obtain ⟨vs, H1, I1, r1, i, j, n, rfl, i1, i2, j1, j2, hn, q⟩ := z
  match us, r1 with
  | [_, _, _], .cons ⟨t, rfl⟩ (.cons ⟨t', rfl⟩ (.cons ⟨t'', rfl⟩ .nil)) =>
    refine call_range_3 (by decide) (args_nil ?_) (Or.inl (PyProof.noPylong_of_log2 (by decide +kernel)))
    have I2 : Inv X pins σ H1 { s1 with heap := s1.heap.push { cls := .type "range", data := .fields #[.int i t, .int j t', .int 2 t''] } } := I1.kept (t' := s1.toks) fun b u e => Heap.get?_push_of_some _ e
    have nle : n ≤ 2 ^ 24 := by
      unfold Builtin.Range.rangeSize at hn
      rw [if_pos (by decide)] at hn
      by_cases z : i < j
      · rw [if_pos z] at hn
        omega
      · rw [if_neg z] at hn
        omega
    refine call_list_range (n := n) (I2.ok.hd hc) (IsRange.new _ _ _ _ _ _ _) (small2 i1 i2 j1 j2) hn nle fun h' tk acc c' hk e' hi => ?_
    have hv : Vals (upV i n) acc.toList := by
      have e : acc.toList.length = n := by rw [Array.length_toList]; exact hi.1
      rw [upV, ← e]
      refine vals_of_get acc.toList _ fun k u hj => ?_
      obtain ⟨y, rfl⟩ := hi.2 k u (by rw [← hj, Array.getElem?_toList])
      exact ⟨y, rfl⟩
    refine ⟨.ref _, upd H1 _ (.lst (upV i n)), I2.laid hk (Nat.le_refl _) (show ObjOk X.prog X.w _ _ _ (.lst (upV i n)) from ⟨?_, acc.toList, c', hv, ?_⟩), rfl, q _ (I2.hok.fresh (Nat.le_refl _))⟩
    · rw [upV_length, sizeLine_eq]
      omega
    · rw [Array.toArray_toList]
      exact e'
end
end TCX
/-! What the head tells of the program's exception classes. -/
namespace TCX
open PySem PySem.Spec PyProof.Rows L2
/-- what isinstance asks of the class at D -/
def excB (K : PySem.W.Frag) (D : Addr) : Bool :=
  He.eqO (PySem.W.findIn K (.ref D) "__getattribute__") (some (some (.builtin "BaseException.__getattribute__"))) && (He.eqO (PySem.W.findIn K (.ref D) "__getattr__") (some none) && (decide (PySem.W.subIn K (.ref D) (.type "BaseException") = some true) &&
    (PySem.W.hasDictIn K D && (He.eqO (PySem.W.findIn K (.ref D) "__class__") (some (some (.builtin "object.__class__"))) && (He.eqO (PySem.W.specialIn K (.builtin "object.__class__") "__get__") (some (some (.builtin "getset_descriptor.__get__"))) &&
      (decide (PySem.W.takesIn K (.builtin "object.__class__") = some true) && decide (PySem.W.mroIn K D (.type "object") = some true)))))))
theorem excB_ok {K : PySem.W.Frag} {D : Addr} (h : excB K D = true) : ExcC K D := by
  obtain ⟨h1, h⟩ := He.ba h
  obtain ⟨h2, h⟩ := He.ba h
  obtain ⟨h3, h⟩ := He.ba h
  obtain ⟨h4, h⟩ := He.ba h
  obtain ⟨h5, h⟩ := He.ba h
  obtain ⟨h6, h⟩ := He.ba h
  obtain ⟨h7, h8⟩ := He.ba h
  exact ⟨He.eqO_ok h1, He.eqO_ok h2, of_decide_eq_true h3, h4, He.eqO_ok h5, He.eqO_ok h6, of_decide_eq_true h7, of_decide_eq_true h8⟩
/-- the classes in the order in which _law_word asks for them -/
def clsN : List Str := (["Empty", "NoDeed", "NoHalf", "NoLinking", "NoNet", "NoNumber", "NoOffset", "NoQuestion", "NoRow", "NoSize", "NoStanding"] : List Str) ++ (["NoTable", "NoText", "NotParted", "NoTree", "NoTriple", "NoWay", "TooWide", "ByNought", "NoName", "NoPlace", "NothingDone"] : List Str)
def words : List Str := (["empty", "deed", "half", "linking", "net", "number", "offset", "question", "row", "size", "standing"] : List Str) ++ (["table", "text", "parted", "tree", "triple", "way", "wide", "nought", "name", "place", "done"] : List Str)
/-- of the 22 classes the at-th one alone is D's -/
def Kits (K : PySem.W.Frag) (D : Addr) (at_ : Nat) : Prop := clsN.map (fun x => PySem.W.kitOne K (.ref D) (.ref (He.ga K x))) = (List.range 22).map fun i => some (i == at_)
instance {K : PySem.W.Frag} {D : Addr} {n : Nat} : Decidable (Kits K D n) := inferInstanceAs (Decidable (_ = _))
theorem Kits.at {K : PySem.W.Frag} {D : Addr} {n : Nat} (h : Kits K D n) (i : Nat) {x : Str} (hx : clsN[i]? = some x) : PySem.W.kitOne K (.ref D) (.ref (He.ga K x)) = some (i == n) := by
  have e := congrArg (fun l : List (Option Bool) => l[i]?) h
  have hi : i < 22 := by
    obtain ⟨z, _⟩ := List.getElem?_eq_some_iff.mp hx
    exact Nat.lt_of_lt_of_eq z rfl
  simp only [List.getElem?_map, hx, Option.map_some] at e
  rw [List.getElem?_range hi] at e
  exact Option.some.inj e
structure Kind (K : PySem.W.Frag) (D : Addr) (n : Nat) : Prop where
  ec : ExcC K D
  kits : Kits K D n
  te : PySem.W.kitOne K (.ref D) (.ref (He.ga K "TurnError")) = some (decide (n < 18))
  ve : PySem.W.kitOne K (.ref D) (.type "ValueError") = some (decide (n < 18))
def excAll (K : PySem.W.Frag) (x : Str) (n : Nat) : Bool := excB K (He.ga K x) && (decide (Kits K (He.ga K x) n) && (decide (PySem.W.kitOne K (.ref (He.ga K x)) (.ref (He.ga K "TurnError")) = some (decide (n < 18))) && (decide (PySem.W.kitOne K (.ref (He.ga K x)) (.type "ValueError") = some (decide (n < 18))) &&
  decide (PySem.W.exmAny K (.ref (He.ga K x)) [.ref (He.ga K "TurnError")] = some (decide (n < 18))))))
theorem excAll_ok {K : PySem.W.Frag} {x : Str} {n : Nat} (h : excAll K x n = true) : Kind K (He.ga K x) n ∧ PySem.W.exmAny K (.ref (He.ga K x)) [.ref (He.ga K "TurnError")] = some (decide (n < 18)) := by
  obtain ⟨h1, h⟩ := He.ba h
  obtain ⟨h2, h⟩ := He.ba h
  obtain ⟨h3, h⟩ := He.ba h
  obtain ⟨h4, h5⟩ := He.ba h
  exact ⟨⟨excB_ok h1, of_decide_eq_true h2, of_decide_eq_true h3, of_decide_eq_true h4⟩, of_decide_eq_true h5⟩
/-- as Kind, of all the classes -/
structure KindF (K : PySem.W.Frag) (D : Addr) (n : Nat) : Prop where
  ec : ExcC K D
  kits : Kits K D n
  te : PySem.W.kitOne K (.ref D) (.ref (He.ga K "TurnError")) = some (decide (n < 18))
  ve : PySem.W.kitOne K (.ref D) (.type "ValueError") = some (decide (n < 18))
  kz : PySem.W.kitOne K (.ref D) (.type "ZeroDivisionError") = some (n == 18)
  ky : PySem.W.kitOne K (.ref D) (.type "KeyError") = some (n == 19)
  ki : PySem.W.kitOne K (.ref D) (.type "IndexError") = some (n == 20)
  kl : PySem.W.kitOne K (.ref D) (.type "LookupError") = some (decide (19 ≤ n))
  kt : PySem.W.kitAny K (.ref D) [.type "KeyError", .type "IndexError"] = some (n == 19 || n == 20)
  x5 : PySem.W.exmAny K (.ref D) [.ref (He.ga K "TurnError"), .ref (He.ga K "ByNought"), .ref (He.ga K "NoName"), .ref (He.ga K "NoPlace"), .ref (He.ga K "NothingDone")] = some true
def excAllF (K : PySem.W.Frag) (x : Str) (n : Nat) : Bool := excB K (He.ga K x) && (decide (Kits K (He.ga K x) n) && (decide (PySem.W.kitOne K (.ref (He.ga K x)) (.ref (He.ga K "TurnError")) = some (decide (n < 18))) && (decide (PySem.W.kitOne K (.ref (He.ga K x)) (.type "ValueError") = some (decide (n < 18))) &&
  (decide (PySem.W.kitOne K (.ref (He.ga K x)) (.type "ZeroDivisionError") = some (n == 18)) && (decide (PySem.W.kitOne K (.ref (He.ga K x)) (.type "KeyError") = some (n == 19)) && (decide (PySem.W.kitOne K (.ref (He.ga K x)) (.type "IndexError") = some (n == 20)) && (decide (PySem.W.kitOne K (.ref (He.ga K x)) (.type "LookupError") = some (decide (19 ≤ n))) &&
  (decide (PySem.W.kitAny K (.ref (He.ga K x)) [.type "KeyError", .type "IndexError"] = some (n == 19 || n == 20)) && decide (PySem.W.exmAny K (.ref (He.ga K x)) [.ref (He.ga K "TurnError"), .ref (He.ga K "ByNought"), .ref (He.ga K "NoName"), .ref (He.ga K "NoPlace"), .ref (He.ga K "NothingDone")] = some true)))))))))
theorem excAllF_ok {K : PySem.W.Frag} {x : Str} {n : Nat} (h : excAllF K x n = true) : KindF K (He.ga K x) n := by
  obtain ⟨h1, h⟩ := He.ba h
  obtain ⟨h2, h⟩ := He.ba h
  obtain ⟨h3, h⟩ := He.ba h
  obtain ⟨h4, h⟩ := He.ba h
  obtain ⟨h5, h⟩ := He.ba h
  obtain ⟨h6, h⟩ := He.ba h
  obtain ⟨h7, h⟩ := He.ba h
  obtain ⟨h8, h⟩ := He.ba h
  obtain ⟨h9, ha⟩ := He.ba h
  exact ⟨excB_ok h1, of_decide_eq_true h2, of_decide_eq_true h3, of_decide_eq_true h4, of_decide_eq_true h5, of_decide_eq_true h6, of_decide_eq_true h7, of_decide_eq_true h8, of_decide_eq_true h9, of_decide_eq_true ha⟩
/-- an own class over ZeroDivisionError -/
def zBase : List Value := [.type "ZeroDivisionError", .type "ArithmeticError", .type "Exception", .type "BaseException", .type "object"]
def excZ (K : PySem.W.Frag) (x : Str) : Bool := PySem.W.excIn K (He.ga K x) zBase "ZeroDivisionError.__new__" && (PySem.W.keepIn K (.ref (He.ga K x)) && (decide (PySem.W.subIn K (.ref (He.ga K x)) (.type "BaseException") = some true) && decide (PySem.W.typeIn K (.ref (He.ga K x)) = some (.type "type"))))
theorem excZ_ok {K : PySem.W.Frag} {x : Str} (h : excZ K x = true) : PySem.W.excIn K (He.ga K x) zBase "ZeroDivisionError.__new__" = true ∧ PySem.W.keepIn K (.ref (He.ga K x)) = true ∧ PySem.W.subIn K (.ref (He.ga K x)) (.type "BaseException") = some true ∧ PySem.W.typeIn K (.ref (He.ga K x)) = some (.type "type") := by
  obtain ⟨h1, h⟩ := He.ba h
  obtain ⟨h2, h⟩ := He.ba h
  obtain ⟨h3, h4⟩ := He.ba h
  exact ⟨h1, h2, of_decide_eq_true h3, of_decide_eq_true h4⟩
end TCX
/-! repr of lists of ints; the end of a law whose own def asks repr. -/
namespace TCX
open PySem PySem.Spec PyProof.Rows L2
/-! ### data of lists of ints -/
def dInts (ns : List Int) : List PyData := ns.map PyData.int
theorem dpAll_ints {K : PySem.W.Frag} {H : Hp} : ∀ ns : List Int, DpAll K H (ns.map V.int) (dInts ns)
  | [] => .nil
  | n :: r => .cons (.int n) (dpAll_ints r)
theorem dp_ints {K : PySem.W.Frag} {H : Hp} {a : Addr} {ns : List Int} (h : H a = some (.lst (ns.map V.int))) : Dp K H (.ref a) (.list (dInts ns)) := .lst (SqL.of h) (dpAll_ints ns)
theorem log_small {i : Int} (h : i.natAbs < 10 ^ 9) : i.natAbs.log2 < 30 := Nat.lt_of_lt_of_le (PySem.Flt.log2_lt_of (show 0 < 30 by decide) (Nat.lt_trans h (by decide))) (by decide)
theorem ints_show : ∀ ns : List Int, (∀ n ∈ ns, n.natAbs < 10 ^ 9) → PyData.showableAll (dInts ns) = true ∧ PyData.hasDictAll (dInts ns) = false ∧ PyData.depthAll (dInts ns) = 0 ∧ PyData.leavesShortAll 13 (dInts ns) = true ∧ PyData.weightAll (dInts ns) ≤ 40 * ns.length
  | [], _ => ⟨rfl, rfl, rfl, rfl, Nat.le_refl _⟩
  | n :: r, h => by
    obtain ⟨h1, h2, h3, h4, h5⟩ := ints_show r fun m hm => h m (List.mem_cons_of_mem _ hm)
    have hn := h n List.mem_cons_self
    have hl := log_small hn
    refine ⟨?_, ?_, ?_, ?_, ?_⟩
    · show (PyData.showable (.int n) && PyData.showableAll (dInts r)) = true
      rw [h1, Bool.and_true]
      simp only [PyData.showable, decide_eq_true_eq]
      omega
    · show (PyData.hasDict (.int n) || PyData.hasDictAll (dInts r)) = false
      rw [h2]
      rfl
    · show max (PyData.depth (.int n)) (PyData.depthAll (dInts r)) = 0
      rw [h3]
      rfl
    · show (PyData.leavesShort 13 (.int n) && PyData.leavesShortAll 13 (dInts r)) = true
      rw [h4, Bool.and_true]
      exact decide_eq_true (PyData.shown_int_le (Nat.lt_trans hn (by decide)))
    · show PyData.weight (.int n) + 1 + PyData.weightAll (dInts r) ≤ 40 * (r.length + 1)
      have : PyData.weight (.int n) ≤ 31 := by
        show (if n == 0 then 0 else n.natAbs.log2 + 1) ≤ 31
        split <;> omega
      omega
structure Shows (d : PyData) : Prop where
  s : d.showable = true
  h : d.hasDict = false
  dp : d.depth ≤ 60
  z : d.shown.length ≤ sizeLine
theorem shows_ints {ns : List Int} (h : ∀ n ∈ ns, n.natAbs < 10 ^ 9) (hl : ns.length ≤ 10000) : Shows (.list (dInts ns)) := by
  obtain ⟨h1, h2, h3, h4, h5⟩ := ints_show ns h
  refine ⟨h1, h2, ?_, PyData.shown_fits (B := 13) (by decide) (by decide) (d := .list (dInts ns)) h4 ?_⟩
  · show PyData.depthAll (dInts ns) + 1 ≤ 60
    omega
  · show PyData.weightAll (dInts ns) ≤ 2 ^ 20
    omega
/-! ### the end of a law, by FnG -/
section
variable {P : Program} {w : World} {K : PySem.W.Frag} {mg mb : Str → Option Value} {CX : CXT} {k : Nat} {fa a : Addr} {cs : List (Addr × Addr)} {fd : FuncData} {x : Str} {sp : Sp} {s₁ : Shared} {vs : List Value} {ns : List Int}
/-- the script (where K doesn't hold it) and the tables are tracked at the law's call -/
def hLaw (K : PySem.W.Frag) (T : List Addr) (a : Addr) (ob : Obj) (xs : List V) : Hp := fun b =>
  if b ∈ T then some (.tbl #[]) else if b = a ∧ K.lookup a = none then some (.frz ob (.lst xs)) else none
theorem hLaw_tab {T : List Addr} {ob : Obj} {xs : List V} {b : Addr} (h : b ∈ T) : hLaw K T a ob xs b = some (.tbl #[]) := if_pos h
theorem hLaw_inv {T : List Addr} {ob : Obj} {xs : List V} {b : Addr} {u : HO} (h : hLaw K T a ob xs b = some u) : (b ∈ T ∧ u = .tbl #[]) ∨ (b = a ∧ K.lookup a = none ∧ u = .frz ob (.lst xs)) := by
  unfold hLaw at h
  by_cases hT : b ∈ T
  · rw [if_pos hT] at h
    exact .inl ⟨hT, (Option.some.inj h).symm⟩
  · rw [if_neg hT] at h
    by_cases ha : b = a ∧ K.lookup a = none
    · rw [if_pos ha] at h
      exact .inr ⟨ha.1, ha.2, (Option.some.inj h).symm⟩
    · rw [if_neg ha] at h
      cases h
theorem law_callG (KX : K.In s₁.heap) (hns : s₁.heap.Ns mainGlobals mg) (hb : s₁.heap.Ns builtinsNs mb) (hbb : ∀ x : Str, x ≠ "__name__" → mb x = bootBuiltins x) (hlim : s₁.heap.NoLimit) (hg : s₁.gens = #[])
    (hT : ∀ p ∈ cs, s₁.heap.get? p.2 = some { cls := .none, data := .fields #[] }) (nT : ∀ p ∈ cs, K.lookup p.2 = none) (C : ∀ p ∈ cs, PySem.W.CodeHd s₁.heap p.1 p.2)
    (hbm : ∃ (bm : Addr) (ob : Obj), mg "__builtins__" = some (.ref bm) ∧ bm ≠ builtinsNs ∧ s₁.heap.get? bm = some ob ∧ ob.cls = .type "module" ∧ ob.dict = some builtinsNs ∧ ob.data = .plain)
    (ha : s₁.heap.get? a = some { cls := .type "list", data := .seq vs.toArray }) (hi : IntsAre vs ns) (hl : ns.length ≤ sizeLine) (hr : Room k callerA)
    (F : ∀ base : Heap, K.In base → base.Ns mainGlobals mg → (∀ p ∈ cs, LamX.TabB base mg p.1 p.2) → FnG P w K mg base CX k fa fd [x] sp) (hbind : ∀ (s : Shared) (u : Value), BindsTo s fd ⟨[u], []⟩ [(x, u)])
    (hsp : ∀ H : Hp, (∀ p ∈ cs, H p.2 = some (.tbl #[])) → SqL K H a (ns.map V.int) → sp [.ref a] H (fun v _ => v = .bl true) fun _ _ _ => False)
    (hCX : ∀ H e s', CX [] H s₁ (fun _ _ _ => False) e s' → False) :
    codeAny (model P w) callerA (.call (.ref fa) ⟨[.ref a], []⟩) (fun r s' => r = .ok (.ret (.bool true)) ∧ OldK s₁.heap s'.heap ∧ s'.os = s₁.os ∧ AllBare s'.gens) s₁ := by
  have rv := vals_ints hi
  have lenV := hi.length
  obtain ⟨T, eT⟩ : ∃ T : List Addr, cs.map (·.2) = T := ⟨_, rfl⟩
  have tIn : ∀ p ∈ cs, p.2 ∈ T := fun p hp => by
    rw [← eT]
    exact List.mem_map.mpr ⟨p, hp, rfl⟩
  have tOut : ∀ b, b ∈ T → ∃ p ∈ cs, p.2 = b := fun b h => by
    rw [← eT] at h
    exact List.mem_map.mp h
  have tGet : ∀ b, b ∈ T → s₁.heap.get? b = some { cls := .none, data := .fields #[] } := fun b h => by
    obtain ⟨p, hp, rfl⟩ := tOut b h
    exact hT p hp
  have aOut : a ∉ T := fun z => by
    have q := ha.symm.trans (tGet a z)
    cases q
  obtain ⟨H, eH⟩ : ∃ H : Hp, hLaw K T a { cls := .type "list", data := .seq vs.toArray } (ns.map V.int) = H := ⟨_, rfl⟩
  have inv : ∀ {b : Addr} {u : HO}, H b = some u → (b ∈ T ∧ u = .tbl #[]) ∨ (b = a ∧ K.lookup a = none ∧ u = .frz { cls := .type "list", data := .seq vs.toArray } (.lst (ns.map V.int))) := fun h => by
    rw [← eH] at h
    exact hLaw_inv h
  have hH : ∀ p ∈ cs, H p.2 = some (.tbl #[]) := fun p hp => by
    rw [← eH]
    exact hLaw_tab (tIn p hp)
  have hS : SqL K H a (ns.map V.int) := by
    cases hk : K.lookup a with
    | none => exact .inl (.inr ⟨_, by rw [← eH]; exact (if_neg aOut).trans (if_pos ⟨rfl, hk⟩)⟩)
    | some o =>
      have e := (KX a o hk).symm.trans ha
      cases e
      exact .inr ⟨_, vs.toArray, _, hk, rfl, rfl, rfl, by rw [List.size_toArray, lenV]; exact hl, by simpa using rv⟩
  have hok : HOk P w H s₁.heap := fun b u e => by
    rcases inv e with ⟨h1, rfl⟩ | ⟨rfl, _, rfl⟩
    · exact tGet b h1
    · exact ⟨ha, by rw [List.length_map]; exact hl, vs, _, rv, ha⟩
  -- what is neither the script nor a table isn't tracked
  have off : ∀ {b : Addr} {o : Obj}, s₁.heap.get? b = some o → (∀ us n, o.data ≠ .seq us n) → o.data ≠ .fields #[] → H b = none := fun {b o} e h1 h2 => by
    cases q : H b with
    | none => rfl
    | some u =>
      rcases inv q with ⟨g1, _⟩ | ⟨rfl, _, _⟩
      · rw [tGet b g1] at e
        cases e
        exact absurd rfl h2
      · rw [ha] at e
        cases e
        exact absurd rfl (h1 _ _)
  have nsK : ∀ {b : Addr} {m : Str → Option Value}, s₁.heap.Ns b m → (hidT s₁.heap H).Ns b m := fun {b m} z => by
    obtain ⟨o, es, ep, e, d, r⟩ := z
    exact ⟨o, es, ep, hidT_get e (off e (fun us n y => by rw [d] at y; cases y) fun y => by rw [d] at y; cases y), d, r⟩
  have hKb : K.In (hidT s₁.heap H) := fun b o e => hidT_get (KX b o e) (by
    cases q : H b with
    | none => rfl
    | some u =>
      rcases inv q with ⟨g1, _⟩ | ⟨rfl, g2, _⟩
      · obtain ⟨p, hp, rfl⟩ := tOut b g1
        rw [nT p hp] at e
        cases e
      · rw [g2] at e
        cases e)
  have hM : L2.Mod K mg (hidT s₁.heap H) := ⟨hKb, nsK hns, ⟨mb, nsK hb, hbb⟩, let ⟨mc, h1, h2⟩ := hlim; ⟨mc, nsK h1, h2⟩⟩
  have TB : ∀ p ∈ cs, LamX.TabB (hidT s₁.heap H) mg p.1 p.2 := fun p hp => by
    have hTp := hT p hp
    refine ⟨?_, ?_, fun z => ?_⟩
    · obtain ⟨o, us, file, tf, flags, tg, inF, text, tt, e1, r1, r2, r3, r4⟩ := C p hp
      exact ⟨o, us, file, tf, flags, tg, inF, text, tt, hidT_get e1 (off e1 (fun _ _ z => by rw [r2] at z; cases z) fun z => by
        rw [r2] at z
        cases z
        simp at r3), r1, r2, r3, r4⟩
    · obtain ⟨bm, ob, b1, b2, b3, b4, b5, b6⟩ := hbm
      refine ⟨bm, ob, b1, b2, fun y => ?_, fun y => ?_, hidT_get b3 (off b3 (fun _ _ z => by rw [b6] at z; cases z) fun z => by rw [b6] at z; cases z), b4, b5, b6⟩
      · obtain ⟨o, es, ep, e, hd, _⟩ := hns
        rw [y, e] at b3
        cases b3
        rw [hd] at b6
        cases b6
      · rw [y, hTp] at b3
        cases b3
        cases b6
    · obtain ⟨o, es, ep, e, hd, _⟩ := hns
      rw [z, hTp] at e
      cases e
      cases hd
  have e0 : Env0 P w K mg (hidT s₁.heap H) callerA [] s₁ H := ⟨rfl, hM, fun b o e => of_hidT e, Nat.le_of_eq (hidT_size _ _), trivial, fun b hb => absurd (show b ∈ ([] : List Addr) from hb) (by simp), hok, .of_eq hg⟩
  refine codeAny_mono ((F _ hKb (nsK hns) TB).grun callerA [] s₁ H ⟨[.ref a], []⟩ [.ref a] [.ref a] _ _ rfl hr e0 (hbind s₁ (.ref a)) (.cons rfl .nil) (hsp H hH hS)) fun r s' h => ?_
  match r, h with
  | .error e, h => exact (hCX H e s' h).elim
  | .ok .next, h => exact False.elim h
  | .ok .brk, h => exact False.elim h
  | .ok .cont, h => exact False.elim h
  | .ok (.ret u), h =>
    obtain ⟨v, H', os, bare, un, hok', r', q'⟩ := h
    cases (show v = .bl true from q')
    cases (show u = Value.bool true from r')
    have noF : ∀ b : Addr, b ∉ frs ([] : List Env) := fun b z => nomatch (show b ∈ ([] : List Addr) from z)
    have key : ∀ b o, b ∉ T → s₁.heap.get? b = some o → s'.heap.get? b = some o := fun b o nb e => by
      cases q : H b with
      | none => exact un.keep b o e q (noF b) (fun z => nomatch z)
      | some u =>
        rcases inv q with ⟨g1, _⟩ | ⟨rfl, _, rfl⟩
        · exact absurd g1 nb
        · obtain ⟨e2, _⟩ := hok' b _ (un.frzs b _ _ q)
          rw [ha] at e
          cases e
          exact e2
    have grown : ∀ p ∈ cs, ∃ more : Array Value, s'.heap.get? p.2 = some { cls := .none, data := .fields more } := fun p hp => by
      obtain ⟨more, z⟩ := un.tbls p.2 #[] (hH p hp)
      exact ⟨_, hok' p.2 _ z⟩
    refine ⟨rfl, ⟨fun b o e => ?_, fun b o e => ?_⟩, os, bare⟩
    · by_cases hb : b ∈ T
      · obtain ⟨p, hp, rfl⟩ := tOut b hb
        obtain ⟨more, hm⟩ := grown p hp
        rw [hT p hp] at e
        cases e
        exact .inr (.inl ⟨((C p hp).tab (hT p hp)).isCodeTable, rfl, #[], more, rfl, by rw [Array.empty_append]; exact hm⟩)
      · exact .inl (key b o hb e)
    · by_cases hb : b ∈ T
      · obtain ⟨p, hp, rfl⟩ := tOut b hb
        obtain ⟨more, hm⟩ := grown p hp
        exact ⟨_, hm⟩
      · exact ⟨o, key b o hb e⟩
end
/-- what is known of the law's promise at the head's heap -/
def LawAtG (l : PySem.W.OpenLaw) (w : World) (K : PySem.W.Frag) (CX : CXT) (k n : Nat) (x : Str) (mg : Str → Option Value) (fa : Addr) (h : Heap) : Prop :=
  ∃ (fd : FuncData) (cs : List (Addr × Addr)) (sp : Sp), (∀ p ∈ cs, h.get? p.2 = some { cls := .none, data := .fields #[] }) ∧ (∀ p ∈ cs, K.lookup p.2 = none) ∧ (∀ p ∈ cs, PySem.W.CodeHd h p.1 p.2) ∧ (∀ (s : Shared) (u : Value), BindsTo s fd ⟨[u], []⟩ [(x, u)]) ∧
    (∀ (H : Hp) (a : Addr) (ns : List Int), ns.length ≤ n → (∀ p ∈ cs, H p.2 = some (.tbl #[])) → SqL K H a (ns.map V.int) → sp [.ref a] H (fun v _ => v = .bl true) fun _ _ _ => False) ∧
    ∀ base : Heap, K.In base → base.Ns mainGlobals mg → (∀ p ∈ cs, LamX.TabB base mg p.1 p.2) → FnG l.prog w K mg base CX k fa fd [x] sp
theorem walk_ofG {l : PySem.W.OpenLaw} {n k : Nat} {q : Program} {loose : List Str} {XP : (Str → Option Value) → Heap → Prop} {YP : World → Heap → Prop} {d : DefRec} {CX : World → CXT} {x : Str}
    (hn : l.most = some n) (hn2 : n ≤ sizeLine) (hdf : d.params.defaults = []) (hr : Room k callerA)
    (F : ∀ (w : World) (mg : Str → Option Value) (fa : Addr) (h : Heap), YP w h → h.Ns mainGlobals mg → mg d.name = some (.ref fa) → ∃ K : PySem.W.Frag, K.In h ∧ LawAtG l w K (CX w) k n x mg fa h)
    (hCX : ∀ (w : World) (H : Hp) (s : Shared) (e : Value) (s' : Shared), CX w [] H s (fun _ _ _ => False) e s' → False) :
    PySem.W.WalkO q loose XP YP l.row.toRowW d [] (fun f vs => PySem.call f vs) := by
  refine Att.attach_callB hn hdf fun w s₀ s₁ mg mb fa o pm cd doc a vs ns G Y ho hd hcd hmg hobj hints hlen hbits hg => ?_
  obtain ⟨K, KX, fd, cs, sp, hT, nT, C, hb, hsp, hF⟩ := F w mg fa _ Y G.T.g hmg
  exact law_callG KX G.T.g G.T.b G.T.builtins G.T.nolimit hg hT nT C G.T.bmain hobj hints (Nat.le_trans hlen hn2) hr hF hb (fun H hH hS => hsp H a ns hlen hH hS) fun H e s' => hCX w H s₁ e s'
end TCX
/-! isinstance of a kept exception and a tuple of classes; promises joined. -/
namespace TCX
open PySem PySem.Spec PyProof.Rows L2
section
variable {X : Cx}
def rIsVT (K : PySem.W.Frag) : List V → Hp → VK → Prop := fun xs H Q => ∃ (a D tp : Addr) (cs : List V) (us : List Value) (b : Bool), xs = [.ref a, .ref tp] ∧ H a = some (ExV (.ref D) none a) ∧ ExcC K D ∧ H tp = some (.tup cs) ∧ Paired ClsV cs us ∧ PySem.W.kitAny K (.ref D) us = some b ∧ Q (.bl b) H
theorem call_isVT : CallR X (.builtin "isinstance") (rIsVT X.K) := by
  intro pins s σ H xs us Q I r h
  obtain ⟨a, D, tp, cs, ws, b, rfl, hH, C, hT, k, e, q⟩ := h
  obtain ⟨u1, u2, rfl, r1, r2⟩ := vals2 r
  cases (show u2 = Value.ref tp from r2)
  cases (show u1 = Value.ref a from r1)
  obtain ⟨oe, J⟩ := inst_of I hH
  obtain ⟨_, its, rv, o, h1, h2, n, h3⟩ := (show ObjOk X.prog X.w H s.heap tp (.tup cs) from I.hok tp _ hT)
  have e3 := ClsV.all k rv
  subst e3
  obtain ⟨oc, od, dt, sl⟩ := o
  simp only at h2 h3
  subst h2 h3
  exact PySem.W.kia_tup (PySem.W.handS_kitx_exc C.hg C.hk C.hs C.hd C.ha C.hn C.ht C.hm) I.kIn J h1 e (fun z => nomatch z) fun tk => ⟨.bl b, H, I.tok tk, rfl, q⟩
end
section
variable {P : Program} {w : World} {K : PySem.W.Frag} {mg : Str → Option Value} {base : Heap} {k : Nat} {f : Addr} {fd : FuncData} {ps : List Str} {sp sq : Sp}
/-- a def that lets nothing out may be asked where something might -/
theorem lift0 (F : FnOk P w K mg base CX0 k f fd ps sp) : FnOk P w K mg base (L2.CX P w) k f fd ps sp := by
  refine ⟨F.len, fun A outer s H args us vs Q E hr he hb hv hs => codeAny_mono (F.run A outer s H args us vs Q E hr he hb hv hs) fun r s' hq => ?_⟩
  match r, hq with
  | .error u, hq => exact (show False from hq).elim
  | .ok (.ret u), hq => exact hq
  | .ok .next, hq => exact hq
  | .ok .brk, hq => exact hq
  | .ok .cont, hq => exact hq
/-- two promises of one def -/
theorem both {CX : CXT} (F : FnOk P w K mg base CX k f fd ps sp) (G : FnOk P w K mg base CX k f fd ps sq) : FnOk P w K mg base CX k f fd ps (fun vs H Q E => sp vs H Q E ∨ sq vs H Q E) := by
  refine ⟨fun vs H Q E h => h.elim (F.len vs H Q E) (G.len vs H Q E), fun A outer s H args us vs Q E hr he hb hv hs => ?_⟩
  rcases hs with h | h
  · exact F.run A outer s H args us vs Q E hr he hb hv h
  · exact G.run A outer s H args us vs Q E hr he hb hv h
end
end TCX
namespace TCX
open PySem PySem.Spec PyProof.Rows L2
section
variable {prog : Program} {w : World} {A : Around} {E : Value → Shared → Prop} {s : Shared} {t : Addr} {xs : Array (Int × Tok)}
/-- what a new tuple iterator leaves -/
theorem tup_kept {h' : Heap} (hk : ∀ b o, b ∉ [s.heap.objs.size] → (s.heap.push { cls := .type "tuple_iterator", data := .fields #[.ref t, .int 0 0] }).get? b = some o → h'.get? b = some o) :
    ∀ b o, s.heap.get? b = some o → h'.get? b = some o := fun b o e => by
  refine hk b o (fun hm => ?_) (Heap.get?_push_of_some _ e)
  have := Heap.lt_size e
  rw [List.mem_singleton.mp hm] at this
  exact Nat.lt_irrefl _ this
theorem tup_below (ht : s.heap.IsTuple t (intItems xs)) : t ≠ s.heap.objs.size ∧ ∀ b ∈ [s.heap.objs.size, t], b < (s.heap.push { cls := .type "tuple_iterator", data := .fields #[.ref t, .int 0 0] }).objs.size := by
  obtain ⟨_, e, _⟩ := ht
  have hlt := Heap.lt_size e
  refine ⟨Nat.ne_of_lt hlt, fun b hb => ?_⟩
  rw [Heap.size_push]
  rcases List.mem_cons.mp hb with z | z
  · omega
  · rw [List.mem_singleton.mp z]
    exact Nat.lt_succ_of_lt hlt
theorem sum_tup {Q : Value → Shared → Prop} (hh : A.handled = none) (ht : s.heap.IsTuple t (intItems xs))
    (h : ∀ h' tk t', (∀ b o, s.heap.get? b = some o → h'.get? b = some o) → Q (.int (preSum (numAt xs) xs.size) t') { s with heap := h', toks := tk }) :
    wpAny (model prog w) A (call (.builtin "sum") [.ref t]) Q E s := by
  obtain ⟨hne, hb⟩ := tup_below ht
  refine call_sum_walkG (wpAny_pyIter_tuple ht ?_)
  refine ⟨_, [_, t], [_], _, _, _, numAt xs, rfl, Walks.tuple (A := A.in1) hh _ t hne (intItems xs), ⟨⟨_, Heap.get?_push_size _ rfl, rfl, rfl⟩, ht.push _⟩, hb, (fun _ _ => intItems_at), fun h' tk t' hk => ?_⟩
  have := h h' tk t' (tup_kept hk)
  simpa [intItems] using this
theorem max_tup {Q : Value → Shared → Prop} (hh : A.handled = none) (ht : s.heap.IsTuple t (intItems xs)) (hp : 0 < xs.size)
    (h : ∀ v h' tk, (intItems xs)[argBest (fun i j => decide (numAt xs i > numAt xs j)) (xs.size - 1)]? = some v → (∀ b o, s.heap.get? b = some o → h'.get? b = some o) → Q v { s with heap := h', toks := tk }) :
    wpAny (model prog w) A (call (.builtin "max") [.ref t]) Q E s := by
  obtain ⟨hne, hb⟩ := tup_below ht
  refine call_max_walk (wpAny_pyIter_tuple ht ?_)
  refine ⟨_, [_, t], [_], _, _, _, _, rfl, Walks.tuple (A := A.in1) hh _ t hne (intItems xs), ⟨⟨_, Heap.get?_push_size _ rfl, rfl, rfl⟩, ht.push _⟩, hb, by simpa [intItems] using hp, CmpOf.ints_gt (numAt xs) (fun _ _ => intItems_at), fun v h' tk hP hk => ?_⟩
  exact h v h' tk (by simpa [intItems] using hP) (tup_kept hk)
end
section
variable {X : Cx}
/-- sum(t), max(t) of a tuple of whole numbers -/
def rSumT (K : PySem.W.Frag) : List V → Hp → VK → Prop := fun vs H Q => ∃ (a : Addr) (ns : List Int), vs = [V.ref a] ∧ SqT K H a (ns.map V.int) ∧ Q (.int ns.sum) H
def rMaxT (K : PySem.W.Frag) : List V → Hp → VK → Prop := fun vs H Q => ∃ (a : Addr) (ns : List Int), vs = [V.ref a] ∧ SqT K H a (ns.map V.int) ∧ 0 < ns.length ∧ ∀ m, m ∈ ns → (∀ y, y ∈ ns → y ≤ m) → Q (.int m) H
theorem cr_sumT (hc : X.calm = true) : CallR X (.builtin "sum") (rSumT X.K) := by
  intro pins s σ H vs us Q I r h
  obtain ⟨a, ns, rfl, hs, q⟩ := h
  obtain ⟨its, rv, ht, _⟩ := I.tuple hs
  rw [Vals.ref1 r]
  have hi := rv.ints
  obtain ⟨xs, e⟩ := hi.allInts.items
  have hn : numsOf (intItems xs).toList = ns := by rw [← e]; exact hi.numsOf
  rw [nums_intItems] at hn
  rw [e] at ht
  refine sum_tup (I.ok.hd hc) ht fun h' tk t' hk => ?_
  rw [preSum_eq, List.take_of_length_le (by simp), hn]
  exact ⟨.int _, H, I.kept hk, ⟨_, rfl⟩, q⟩
theorem cr_maxT (hc : X.calm = true) : CallR X (.builtin "max") (rMaxT X.K) := by
  intro pins s σ H vs us Q I r h
  obtain ⟨a, ns, rfl, hs, hne, q⟩ := h
  obtain ⟨its, rv, ht, _⟩ := I.tuple hs
  rw [Vals.ref1 r]
  have hi := rv.ints
  obtain ⟨xs, e⟩ := hi.allInts.items
  have hn : numsOf (intItems xs).toList = ns := by rw [← e]; exact hi.numsOf
  rw [nums_intItems] at hn
  subst hn
  rw [e] at ht
  have hsz : 0 < xs.size := by simpa using hne
  refine max_tup (I.ok.hd hc) ht hsz fun v h' tk hv hk => ?_
  obtain ⟨t, rfl⟩ := intItems_at hv
  obtain ⟨h1, h2⟩ := argBest_gt (numAt xs) (xs.size - 1)
  refine ⟨.int _, H, I.kept hk, ⟨_, rfl⟩, q _ ?_ fun y hy => ?_⟩
  · rw [numAt_eq]
    exact PySem.getD_mem (by rw [List.length_map, Array.length_toList]; omega)
  · obtain ⟨j, hj, rfl⟩ := mem_getD hy
    rw [List.length_map, Array.length_toList] at hj
    rw [← numAt_eq]
    exact h2 j (by omega)
end
end TCX
namespace TCX
open PySem PySem.Spec PyProof.Rows L2
/-- a promise kept as it is said: the unifier does not open it -/
structure Box (sp : Sp) (vs : List V) (H : Hp) (Q : VK) (E : XK) : Prop where
  out : sp vs H Q E
theorem boxed {P : Program} {w : World} {K : PySem.W.Frag} {mg : Str → Option Value} {base : Heap} {CX : CXT} {k : Nat} {f : Addr} {fd : FuncData} {ps : List Str} {sp : Sp} (F : FnOk P w K mg base CX k f fd ps sp) : FnOk P w K mg base CX k f fd ps (Box sp) :=
  ⟨fun vs H Q E h => F.len vs H Q E h.out, fun A outer s H args us vs Q E hr he hb hv hs => F.run A outer s H args us vs Q E hr he hb hv hs.out⟩
end TCX
namespace TCX
open PySem PySem.Spec PyProof.Rows L2 HT
theorem same_new {H : Hp} {p : Addr} {o : HO} (h : H p = none) : Same H (upd H p o) := fun b x e => by
  rw [upd_ne (ne_of_none e h)]
  exact e
section
variable {X : Cx}
/-- t + u, whatever they hold: some tuple of both -/
def rCatS : R2 := fun x y H Q => ∃ a b xs ys, x = .ref a ∧ y = .ref b ∧ H a = some (.tup xs) ∧ H b = some (.tup ys) ∧ xs.length + ys.length ≤ sizeLine ∧ ∀ p H', Same H H' → H' p = some (.tup (xs ++ ys)) → Q (.ref p) H'
theorem op_catS : OpR X (binaryOp .Add) (rCatS) := by
  intro pins s σ H x y v u Q I rx ry h
  obtain ⟨a, b, xs, ys, rfl, rfl, ha, hb, hz, q⟩ := h
  refine op_catA pins s σ H _ _ v u Q I rx ry ⟨a, b, xs, ys, rfl, rfl, SqT.of ha, SqT.of hb, hz, fun e => ?_, fun _ e => ?_, fun _ _ p hp => ?_⟩
  · subst e
    exact q b H (fun _ _ z => z) hb
  · subst e
    exact q a H (fun _ _ z => z) (by rw [List.append_nil]; exact ha)
  · exact q p _ (same_new hp) upd_same
/-- t[lo:hi], whatever it is: some tuple of the part -/
def rSlS : V → Option Int → Option Int → Hp → VK → Prop := fun x lo hi H Q => ∃ a xs, x = .ref a ∧ H a = some (.tup xs) ∧ ∀ p H', Same H H' → H' p = some (.tup (cutV xs lo hi)) → Q (.ref p) H'
theorem sl_tupS : SlR X (rSlS) := by
  intro pins s σ H x v vl vu lo hi sl Q I rx hs pl pu h
  obtain ⟨a, xs, rfl, hx, q⟩ := h
  refine sl_tupA pins s σ H _ v vl vu lo hi sl Q I rx hs pl pu ⟨a, xs, rfl, SqT.of hx, fun e => ?_, fun _ p hp => ?_⟩
  · refine q a H (fun _ _ z => z) ?_
    unfold cutV
    rw [e.1, e.2]
    simpa using hx
  · exact q p _ (same_new hp) upd_same
end
theorem cut_take {xs : List V} {k : Nat} : cutV xs none (some (k : Int)) = xs.take k := by
  unfold cutV
  rw [sIx_nat, sIx_none]
  show xs.take (min k xs.length) = xs.take k
  by_cases h : k ≤ xs.length
  · rw [Nat.min_eq_left h]
  · rw [Nat.min_eq_right (by omega), List.take_length, List.take_of_length_le (by omega)]
theorem cut_drop {xs : List V} {k : Nat} : cutV xs (some (k : Int)) none = xs.drop k := by
  unfold cutV
  rw [sIx_nat, sIx_none]
  by_cases h : k ≤ xs.length
  · rw [Nat.min_eq_left h, List.take_of_length_le (by rw [List.length_drop]; omega)]
  · rw [Nat.min_eq_right (by omega), List.drop_length, List.drop_of_length_le (by omega)]
    exact List.take_nil
end TCX
/-! The mathematics, in plain Lean. -/
namespace TCM
/-! ### the greatest common divisor, by steps with Python's remainder -/
theorem gcd_fmod (a b : Int) : Int.gcd b (a.fmod b) = Int.gcd a b := by
  have e : a.fmod b = a - b * a.fdiv b := by
    have := Int.fmod_add_mul_fdiv a b
    omega
  rw [e, Int.gcd_comm a b]
  apply Nat.dvd_antisymm
  · refine Int.dvd_gcd (Int.gcd_dvd_left ..) ?_
    have h1 : ((Int.gcd b (a - b * a.fdiv b) : Nat) : Int) ∣ b := Int.gcd_dvd_left ..
    have h2 : ((Int.gcd b (a - b * a.fdiv b) : Nat) : Int) ∣ a - b * a.fdiv b := Int.gcd_dvd_right ..
    have h3 := Int.dvd_add h2 (Int.dvd_mul_of_dvd_left (c := a.fdiv b) h1)
    have e2 : a - b * a.fdiv b + b * a.fdiv b = a := by omega
    rw [e2] at h3
    exact h3
  · refine Int.dvd_gcd (Int.gcd_dvd_left ..) ?_
    have h1 : ((Int.gcd b a : Nat) : Int) ∣ b := Int.gcd_dvd_left ..
    have h2 : ((Int.gcd b a : Nat) : Int) ∣ a := Int.gcd_dvd_right ..
    exact Int.dvd_sub h2 (Int.dvd_mul_of_dvd_left (c := a.fdiv b) h1)
theorem fmod_lt (a b : Int) (h : b ≠ 0) : (a.fmod b).natAbs < b.natAbs := by
  rcases Int.lt_or_gt_of_ne h with hb | hb
  · have h1 : a.fmod b = a % b + if 0 ≤ b ∨ b ∣ a then 0 else b := Int.fmod_eq_emod
    have := Int.emod_nonneg a h
    have := Int.emod_lt_of_pos a (b := -b) (by omega)
    rw [Int.emod_neg] at this
    rw [h1]
    split
    · omega
    · rename_i z
      have : a % b ≠ 0 := fun e => z (.inr (Int.dvd_of_emod_eq_zero e))
      omega
  · have h1 := Int.fmod_nonneg_of_pos a hb
    have h2 := Int.fmod_lt_of_pos a hb
    omega
theorem abs_eq (i : Int) : (if i < 0 then -i else i) = ((i.natAbs : Nat) : Int) := by
  split <;> omega
/-! ### a fraction in lowest terms -/
def sgn (t b : Int) : Int := if b < 0 then -((Int.gcd t b : Nat) : Int) else ((Int.gcd t b : Nat) : Int)
def low (t b : Int) : Int × Int := (t.fdiv (sgn t b), b.fdiv (sgn t b))
/-- as the law says it -/
def lowL (t b : Int) : Int × Int := if 0 < b then (t.fdiv ((Int.gcd t b : Nat) : Int), b.fdiv ((Int.gcd t b : Nat) : Int)) else ((-t).fdiv ((Int.gcd t b : Nat) : Int), (-b).fdiv ((Int.gcd t b : Nat) : Int))
theorem low_eq (t b : Int) (h : b ≠ 0) : low t b = lowL t b := by
  unfold low lowL sgn
  by_cases hb : b < 0
  · rw [if_pos hb, if_neg (by omega)]
    have e1 := Int.neg_fdiv_neg (-t) ((Int.gcd t b : Nat) : Int)
    have e2 := Int.neg_fdiv_neg (-b) ((Int.gcd t b : Nat) : Int)
    rw [Int.neg_neg] at e1 e2
    rw [e1, e2]
  · rw [if_neg hb, if_pos (by omega)]
theorem gcd_pos (t b : Int) (h : b ≠ 0) : 0 < Int.gcd t b := by
  have : Int.gcd t b ≠ 0 := fun e => h (Int.gcd_eq_zero_iff.mp e).2
  omega
theorem gcd_le (t b : Int) (h : b ≠ 0) : Int.gcd t b ≤ b.natAbs := by
  show Nat.gcd t.natAbs b.natAbs ≤ b.natAbs
  exact Nat.gcd_le_right _ (by omega)
theorem sgn_ne (t b : Int) (h : b ≠ 0) : sgn t b ≠ 0 := by
  have := gcd_pos t b h
  unfold sgn
  split <;> omega
theorem sgn_abs (t b : Int) : (sgn t b).natAbs = Int.gcd t b := by
  unfold sgn
  split <;> omega
/-- the quotients are no larger -/
theorem fdiv_abs (t d : Int) (h : d ≠ 0) (hd : d ∣ t) : (t.fdiv d).natAbs ≤ t.natAbs := by
  obtain ⟨k, rfl⟩ := hd
  rw [Int.mul_fdiv_cancel_left k h, Int.natAbs_mul]
  exact Nat.le_mul_of_pos_left _ (by omega)
theorem sgn_dvd (t b : Int) : sgn t b ∣ t ∧ sgn t b ∣ b := by
  have h1 : ((Int.gcd t b : Nat) : Int) ∣ t := Int.gcd_dvd_left ..
  have h2 : ((Int.gcd t b : Nat) : Int) ∣ b := Int.gcd_dvd_right ..
  unfold sgn
  split
  · exact ⟨Int.neg_dvd.mpr h1, Int.neg_dvd.mpr h2⟩
  · exact ⟨h1, h2⟩
theorem low_abs (t b : Int) (h : b ≠ 0) : (low t b).1.natAbs ≤ t.natAbs ∧ (low t b).2.natAbs ≤ b.natAbs :=
  ⟨fdiv_abs t _ (sgn_ne t b h) (sgn_dvd t b).1, fdiv_abs b _ (sgn_ne t b h) (sgn_dvd t b).2⟩
theorem low_pos (t b : Int) (h : b ≠ 0) : 0 < (low t b).2 := by
  obtain ⟨k, hk⟩ := (sgn_dvd t b).2
  have hs := sgn_ne t b h
  have e : (low t b).2 = k := by
    show b.fdiv (sgn t b) = k
    rw [hk, ← hk]
    have e2 : b.fdiv (sgn t b) = (sgn t b * k).fdiv (sgn t b) := by rw [← hk]
    rw [e2]
    exact Int.mul_fdiv_cancel_left k hs
  rw [e]
  have g0 := gcd_pos t b h
  unfold sgn at hk
  by_cases hb : b < 0
  · rw [if_pos hb] at hk
    rcases Int.lt_trichotomy k 0 with z | z | z
    · exfalso
      have := Int.mul_nonneg_of_nonpos_of_nonpos (a := -((Int.gcd t b : Nat) : Int)) (b := k) (by omega) (by omega)
      omega
    · rw [z] at hk
      omega
    · exact z
  · rw [if_neg hb] at hk
    rcases Int.lt_trichotomy k 0 with z | z | z
    · exfalso
      have := Int.mul_nonneg (a := ((Int.gcd t b : Nat) : Int)) (b := -k) (by omega) (by omega)
      rw [Int.mul_neg] at this
      omega
    · rw [z] at hk
      omega
    · exact z
theorem low_one (t : Int) : low t 1 = (t, 1) := by
  unfold low sgn
  rw [if_neg (by decide), Int.gcd_one]
  show (t.fdiv 1, (1 : Int).fdiv 1) = (t, 1)
  rw [Int.fdiv_one]
  rfl
/-! ### squares taken out -/
/-- while n % (p * p) == 0: n //= p * p; o *= p -/
def whl : Nat → Int → Int → Int → Int × Int
  | 0, _, n, o => (n, o)
  | k + 1, p, n, o => if n % (p * p) = 0 then whl k p (n / (p * p)) (o * p) else (n, o)
/-- as squares_out goes on: over the primes, until 1 is left: (outside, inside, rest) -/
def sqL : List Int → Int → Int → Int → Int × Int × Int
  | [], n, o, i => (o, i, n)
  | p :: ps, n, o, i => if n = 1 then (o, i, n) else
    if (whl 10 p n o).1 % p = 0 then sqL ps ((whl 10 p n o).1 / p) (whl 10 p n o).2 (i * p) else sqL ps (whl 10 p n o).1 (whl 10 p n o).2 i
/-- as the law goes on: over all numbers -/
def fr : Nat → Int → Int → Int → Int × Int
  | 0, _, n, s => (s, n)
  | k + 1, p, n, s => if p * p ≤ n then fr k (p + 1) (whl 10 p n s).1 (whl 10 p n s).2 else (s, n)
theorem sq_div {n q : Int} (h0 : 0 < n) (hq : 4 ≤ q) (h : n % q = 0) : 0 < n / q ∧ n / q * 4 ≤ n ∧ n / q < n := by
  have e := Int.mul_ediv_add_emod n q
  rw [h, Int.add_zero] at e
  have h1 : 0 < n / q := by
    rcases Int.lt_or_le 0 (n / q) with z | z
    · exact z
    · have := Int.mul_le_mul_of_nonneg_left z (show 0 ≤ q by omega)
      rw [Int.mul_zero] at this
      omega
  have h2 : n / q * 4 ≤ n / q * q := Int.mul_le_mul_of_nonneg_left hq (by omega)
  rw [Int.mul_comm q] at e
  exact ⟨h1, by omega, by omega⟩
theorem pp4 {p : Int} (h : 2 ≤ p) : 4 ≤ p * p := by
  have := Int.mul_le_mul h h (by omega) (by omega)
  omega
theorem whl_ok : ∀ (k : Nat) (p n o : Int), 2 ≤ p → 0 < n → 0 < (whl k p n o).1 ∧ (whl k p n o).1 ≤ n
  | 0, p, n, o, _, h => ⟨h, Int.le_refl _⟩
  | k + 1, p, n, o, hp, h => by
    unfold whl
    split
    · rename_i z
      obtain ⟨a, b, c⟩ := sq_div h (pp4 hp) z
      obtain ⟨d, e⟩ := whl_ok k p (n / (p * p)) (o * p) hp a
      exact ⟨d, by omega⟩
    · exact ⟨h, Int.le_refl _⟩
/-- the loop's measure: whl with more fuel is the same -/
theorem whl_fuel : ∀ (k j : Nat) (p n o : Int), 2 ≤ p → 0 < n → n < 4 ^ k → whl (k + j) p n o = whl k p n o
  | 0, j, p, n, o, _, h, h2 => by
    have : n < 1 := h2
    omega
  | k + 1, j, p, n, o, hp, h, h2 => by
    rw [Nat.add_right_comm]
    show (if n % (p * p) = 0 then whl (k + j) p (n / (p * p)) (o * p) else (n, o)) = (if n % (p * p) = 0 then whl k p (n / (p * p)) (o * p) else (n, o))
    split
    · rename_i z
      obtain ⟨a, b, c⟩ := sq_div h (pp4 hp) z
      exact whl_fuel k j p _ _ hp a (by
        have e : (4 : Int) ^ (k + 1) = 4 ^ k * 4 := Int.pow_succ ..
        omega)
    · rfl
def primes : List Int := [2, 3, 5, 7, 11, 13, 17, 19, 23, 29, 31, 37, 41, 43, 47, 53, 59, 61, 67, 71, 73, 79, 83, 89, 97, 101, 103, 107, 109, 113, 127, 131, 137, 139, 149, 151, 157, 163, 167, 173, 179, 181, 191, 193, 197, 199, 211, 223, 227, 229, 233, 239, 241, 251, 257, 263, 269, 271, 277, 281, 283, 293, 307, 311, 313, 317, 331, 337, 347, 349, 353, 359, 367, 373, 379, 383, 389, 397, 401, 409, 419, 421, 431, 433, 439, 443, 449, 457, 461, 463, 467, 479, 487, 491, 499, 503, 509, 521, 523, 541, 547, 557, 563, 569, 571, 577, 587, 593, 599, 601, 607, 613, 617, 619, 631, 641, 643, 647, 653, 659, 661, 673, 677, 683, 691, 701, 709, 719, 727, 733, 739, 743, 751, 757, 761, 769, 773, 787, 797, 809, 811, 821, 823, 827, 829, 839, 853, 857, 859, 863, 877, 881, 883, 887, 907, 911, 919, 929, 937, 941, 947, 953, 967, 971, 977, 983, 991, 997]
def sqOut (n : Int) : Int × Int × Int := if n = 0 then (0, 1, 1) else sqL primes n 1 1
def free (n : Int) : Int × Int := fr 1000 2 n 1
/-- the roots that the law takes -/
def chk (r : Int) : Bool := match sqOut r, free r with
  | (o, i, m), (s, f) => decide (m = 1) && (decide (0 ≤ o) && (decide (o ≤ 1000) && (decide (1 ≤ i) && (decide (i ≤ 1000000) && (decide (r = 0) || (decide (0 < o) && (decide (s = o) && decide (f = i))))))))
def some11 : List Int := [0, 1, 4, 12, 997, 997 * 997, 2 ^ 19, 510510, 720720, 1000000, 30 * 30 * 7]
theorem chk_11 : some11.all chk = true := by decide +kernel
theorem chk_900 : (List.range 900).all (fun k => chk (1 + (k : Int))) = true := by decide +kernel
def Ok (r : Int) : Prop := 0 ≤ r ∧ r ≤ 1000000 ∧ chk r = true
theorem ok_11 {r : Int} (h : r ∈ some11) : Ok r := by
  refine ⟨?_, ?_, List.all_eq_true.mp chk_11 r h⟩
  · revert r; decide
  · revert r; decide
theorem ok_900 {d : Int} (h0 : 0 ≤ d) (h1 : d < 900) : Ok (1 + d) := by
  refine ⟨by omega, by omega, ?_⟩
  have := List.all_eq_true.mp chk_900 d.toNat (List.mem_range.mpr (by omega))
  rw [Int.toNat_of_nonneg h0] at this
  exact this
theorem Ok.all {r : Int} (h : Ok r) : (sqOut r).2.2 = 1 ∧ 0 ≤ (sqOut r).1 ∧ (sqOut r).1 ≤ 1000 ∧ 1 ≤ (sqOut r).2.1 ∧ (sqOut r).2.1 ≤ 1000000 ∧ (r ≠ 0 → 0 < (sqOut r).1 ∧ free r = ((sqOut r).1, (sqOut r).2.1)) := by
  obtain ⟨_, _, h⟩ := h
  unfold chk at h
  generalize sqOut r = a at h ⊢
  generalize free r = b at h ⊢
  obtain ⟨o, i, m⟩ := a
  obtain ⟨s, f⟩ := b
  simp only [Bool.and_eq_true, Bool.or_eq_true, decide_eq_true_eq] at h
  obtain ⟨h1, h2, h3, h4, h5, h6⟩ := h
  refine ⟨h1, h2, h3, h4, h5, fun hr => ?_⟩
  rcases h6 with h6 | ⟨h6, h7, h8⟩
  · exact absurd h6 hr
  · exact ⟨h6, by rw [h7, h8]⟩
/-- what exact comes to: no part, or one -/
def ex (top bottom root : Int) : Option (Int × Int × Int) :=
  if top * (sqOut root).1 = 0 then none else some ((sqOut root).2.1, (low (top * (sqOut root).1) bottom).1, (low (top * (sqOut root).1) bottom).2)
/-- what is due, as the law says it -/
def due (up under r : Int) : Option (Int × Int × Int) :=
  if up = 0 ∨ r = 0 then none else some ((free r).2, (lowL (up * (free r).1) under).1, (lowL (up * (free r).1) under).2)
theorem ex_due {t b r : Int} (hb : b ≠ 0) (h : Ok r) : ex t b r = due t b r := by
  obtain ⟨h1, h2, h3, h4, h5, h6⟩ := h.all
  unfold ex due
  by_cases hr : r = 0
  · subst hr
    rw [if_pos (show t * (sqOut 0).1 = 0 from Int.mul_zero _), if_pos (Or.inr rfl)]
  · obtain ⟨h7, h8⟩ := h6 hr
    rw [h8, ← low_eq _ _ hb]
    by_cases ht : t = 0
    · subst ht
      rw [if_pos (Int.zero_mul _), if_pos (Or.inl rfl)]
    · rw [if_neg (show ¬ t * (sqOut r).1 = 0 from fun e => by
        rcases Int.mul_eq_zero.mp e with e | e <;> omega), if_neg (show ¬ (t = 0 ∨ r = 0) by omega)]
theorem ok_one : Ok 1 := ok_11 (by decide)
theorem sq_one : sqOut 1 = (1, 1, 1) := by decide +kernel
theorem ex_one (t : Int) : ex t 1 1 = if t = 0 then none else some (1, t, 1) := by
  unfold ex
  rw [sq_one]
  show (if t * 1 = 0 then none else some ((1 : Int), (low (t * 1) 1).1, (low (t * 1) 1).2)) = _
  rw [Int.mul_one, low_one]
theorem ex_succ (t : Int) : ex t 1 1 ≠ ex (t + 1) 1 1 := by
  rw [ex_one, ex_one]
  split <;> split
  · omega
  · simp
  · simp
  · simp only [ne_eq, Option.some.injEq, Prod.mk.injEq, not_and]
    omega
end TCM
/-! Rules of my own: == and != by an own __eq__ with either answer, str of an instance, enumerate of a tuple. -/
namespace TCA
open PySem PySem.Spec PyProof.Rows L2
/-! ### enumerate(tuple) -/
theorem meets_enum1 {v : Value} {o : Obj} {H : Heap → Prop} (B : Begins v o H) :
    Meets (Builtin.«enumerate.__new__» ⟨[.type "enumerate", v], []⟩) (fun _ R s => H s.heap ∧
      R (.ok (.ret (.ref (s.heap.push o).objs.size))) { s with heap := (s.heap.push o).push { cls := .type "enumerate", data := .fields #[.none, .bool false, .ref s.heap.objs.size, rawInt 0, .none, .none] } }) :=
  .of_wp fun prog w A R s h => by
    obtain ⟨hp, g, d, tk, os⟩ := s; obtain ⟨h1, h⟩ := h
    have hsub := sub_enumerate
    have q1 : ∀ {A' : Around} {E : Value → Shared → Prop} {Q : Value → Shared → Prop}, Q (.ref hp.objs.size) ⟨hp.push o, g, d, tk, os⟩ → wpAny (model prog w) A' (pyIter v) Q E ⟨hp, g, d, tk, os⟩ :=
      fun q => B.iter prog w _ _ ⟨hp, g, d, tk, os⟩ _ h1 q
    wp_walk using q1
    refine wpAny_stack_any fun st => wpAny_pure ?_
    split
    · rename_i c _ _ _ _ _
      cases (c == Value.type "enumerate")
      · wp_walk using q1
        exact ⟨_, rfl, h⟩
      · wp_walk using q1
        exact ⟨_, rfl, h⟩
    · wp_walk using q1
      exact ⟨_, rfl, h⟩
theorem enum_begins1 {prog : Program} {w : World} {A : Around} {E : Value → Shared → Prop} {s : Shared} {v : Value} {o : Obj} {H : Heap → Prop} {Q : Value → Shared → Prop} (B : Begins v o H) (h1 : H s.heap)
    (h : ∀ h', IsEnum h' (s.heap.objs.size + 1) s.heap.objs.size 0 .none → h'.get? s.heap.objs.size = some o → h'.objs.size = s.heap.objs.size + 2 →
      (∀ b o, s.heap.get? b = some o → h'.get? b = some o) → Q (.ref (s.heap.objs.size + 1)) { s with heap := h' }) :
    wpAny (model prog w) A (call (.type "enumerate") [v]) Q E s := by
  refine callType_new F.called_enumerate (by decide) (F.typeCall_enumerate_1 _) (F.newCall_enumerate_1 _) (fun obj => F.args_object_init_2 obj _) F.entry_enumerate_new
    (meets_enum1 B) ⟨h1, ?_⟩
  have hz : (s.heap.push o).objs.size = s.heap.objs.size + 1 := Heap.size_push ..
  show _ ∧ _
  rw [hz]
  have he : IsEnum ((s.heap.push o).push { cls := .type "enumerate", data := .fields #[.none, .bool false, .ref s.heap.objs.size, rawInt 0, .none, .none] }) (s.heap.objs.size + 1) s.heap.objs.size 0 .none := by
    have := Heap.get?_push_size (s.heap.push o) (o := { cls := .type "enumerate", data := .fields #[.none, .bool false, .ref s.heap.objs.size, rawInt 0, .none, .none] }) rfl
    rw [hz] at this; exact this
  refine ⟨⟨_, he, rfl⟩, h _ he (Heap.get?_push_of_some _ (Heap.get?_push_size _ B.free)) (by rw [Heap.size_push, hz]) fun b o x => Heap.get?_push_of_some _ (Heap.get?_push_of_some _ x)⟩
/-- the tuple at a of xs, each item in a new pair -/
def Iet (K : PySem.W.Frag) (a : Addr) (xs : List V) : It :=
  ⟨fun i H => i < xs.length ∧ SqT K H a xs, fun i H v H' => ∃ T x, v = .ref T ∧ H T = none ∧ H' = upd H T (.tup [.int (i : Nat), x]) ∧ xs[i]? = some x, fun i H => xs.length ≤ i ∧ SqT K H a xs⟩
theorem turn_enumT {P : Program} {w : World} {K : PySem.W.Frag} {elts : List Expr} {kk : Nat} {tpos : Pos} (a e it : Addr) (xs : List V) :
    Turn P w K (.Tuple elts kk tpos) (Iet K a xs) [e, it] e (fun i h => (∃ old, IsEnum h e it ((i : Nat) : Int) old) ∧ h.IsTupleIter it a i ∧ e ≠ it ∧ a ≠ it ∧ e ≠ a ∧ i ≤ xs.length) where
  mem := by simp
  obj := fun i h st b hb => by
    obtain ⟨⟨old, he⟩, ⟨o, ho, hc, hd⟩, _⟩ := st
    have e' : b = e ∨ b = it := by simpa using hb
    rcases e' with z | z
    · rw [z]; exact ⟨_, he, fun v q => nomatch q⟩
    · rw [z]; exact ⟨o, ho, fun v q => by rw [hd] at q; cases q⟩
  keep := fun i h h' st k => let ⟨⟨old, he⟩, hi, hne⟩ := st; ⟨⟨old, k e (by simp) _ he⟩, hi.at fun o q => k it (by simp) o q, hne⟩
  item := by
    intro X hP hw hK hc i pins s σ H E I hf st hg
    subst hP hw hK
    obtain ⟨⟨old, he⟩, hit, hne, hai, hea, hle⟩ := st
    obtain ⟨hlt, hq⟩ := hg
    obtain ⟨its, rv, p, hz⟩ := I.tuple hq
    have hl := rv.length
    have hel : e < s.heap.objs.size := Heap.lt_size he
    have hil : it < s.heap.objs.size := by obtain ⟨_, q, _⟩ := hit; exact Heap.lt_size q
    have hh : X.A.in1.handled = none := I.ok.hd hc
    have D := Draws.tuple (prog := X.prog) (w := X.w) hh it a hai its.toArray
    refine wpAny_pyNext_enum_itemD D he ⟨hit, p⟩ (by simp; omega) hne (by simp; exact ⟨hne, hea⟩) fun u h' tk hu ho hst hT hsz hk => ?_
    obtain ⟨hit', _⟩ := hst
    have hu2 : its[i]? = some u := by simpa using hu
    have hx : xs[i]? = some xs[i] := List.getElem?_eq_getElem hlt
    obtain ⟨u2, hu3, ru⟩ := rv.get hx
    have eu : u2 = u := Option.some.inj (hu3.symm.trans hu2)
    subst eu
    refine ⟨_, rfl, wpAny_letOwnedTupleGo_enum (s := { s with heap := h', toks := tk + 1 }) ho fun h'' he' sb => ?_⟩
    have hT2 : h''.get? s.heap.objs.size = some { cls := .type "tuple", data := .seq #[.int i tk, u2] } := (sb.2 _ (Nat.ne_of_gt hel)).trans hT
    have new : ObjOk X.prog X.w (upd H s.heap.objs.size (.tup [.int (i : Nat), xs[i]])) h'' s.heap.objs.size (.tup [.int (i : Nat), xs[i]]) :=
      ⟨by show 2 ≤ sizeLine; decide, [.int i tk, u2], .cons ⟨_, rfl⟩ (.cons ru .nil), ⟨_, hT2, rfl, _, rfl⟩⟩
    have I1 : Inv X pins σ (upd H s.heap.objs.size (.tup [.int (i : Nat), xs[i]])) { s with heap := h'', toks := tk + 1 } :=
      I.turnedNew (ch := [e, it]) (fun b ob hb q => (sb.2 b (fun z => hb (by simp [z]))).trans (hk b ob (fun z => hb (by simp [z])) (fun z => hb (by simp [z])) q)) hf (Nat.le_refl _) new
    refine ⟨.ref s.heap.objs.size, _, I1, rfl, ⟨_, xs[i], rfl, I.hok.fresh (Nat.le_refl _), rfl, hx⟩, ⟨⟨u2, ?_⟩, hit'.at fun o q => (sb.2 it (Ne.symm hne)).trans q, hne, hai, hea, hlt⟩, fun b hb => ?_⟩
    · have e1 : ((i + 1 : Nat) : Int) = (i : Int) + 1 := by omega
      rw [e1]; exact he'
    · have hb' : b < s.heap.objs.size := by
        have e' : b = e ∨ b = it := by simpa using hb
        rcases e' with z | z
        · rw [z]; exact hel
        · rw [z]; exact hil
      rw [upd_ne (Nat.ne_of_lt hb')]
      exact (hf b hb).1
  done := by
    intro X hP hw hK hc i pins s σ H E I hf st hg
    subst hP hw hK
    obtain ⟨⟨old, he⟩, hit, hne, hai, hea, hle⟩ := st
    obtain ⟨hge, hq⟩ := hg
    obtain ⟨its, rv, p, hz⟩ := I.tuple hq
    obtain ⟨f0, f1, f2, f3, f4, f5⟩ := hf it (by simp)
    have hl := rv.length
    have hh : X.A.in1.handled = none := I.ok.hd hc
    have D := Draws.tuple (prog := X.prog) (w := X.w) hh it a hai its.toArray
    have ei : i = its.toArray.size := by simp; omega
    subst ei
    exact wpAny_pyNext_enum_endD D he ⟨hit, p⟩ fun h' eb => ⟨rfl, I.turned (t' := s.toks) (fun b o hb q => eb b o hb q) f0 f1 f3 f4 f5⟩
  self := fun A i s Q E st h => let ⟨⟨_, he⟩, _⟩ := st; wpAny_pyIter_enum he h
def iEnumT (K : PySem.W.Frag) (ta : TA) : TI := fun σ H R => ta σ H fun vs H1 => ∃ a xs, vs = [.ref a] ∧ SqT K H1 a xs ∧ R (Iet K a xs) H1
theorem pi_enumT {X : Cx} {e : Expr} {ta : TA} {p pos tpos : Pos} {elts : List Expr} {kk : Nat} (hg : Gl X "enumerate") (hm : X.mg "enumerate" = none) (ha : PA X [e] ta) (hs : starEach [e] X.env = [(false, eval e X.env)] := by rfl) :
    PI X (.Tuple elts kk tpos) (.Call (.Name "enumerate" p) [e] [] pos) (iEnumT X.K ta) := by
  refine ⟨fun pins s σ H R I h => ?_⟩
  refine Call_ (ld_blt I hg hm boot_enumerate (PyProof.Rows.callWith_type1 (thn (ha.run pos pins s σ H _ I h) fun us s1 ⟨vs, H1, I1, r1, q1⟩ => ?_) hs rfl))
  obtain ⟨a, xs, ex, hq, q⟩ := q1
  subst ex
  cases r1 with
  | cons r rr =>
    cases rr
    cases r
    obtain ⟨its, rv, p', hz⟩ := I1.tuple hq
    have hal : a < s1.heap.objs.size := by obtain ⟨o, h1, _⟩ := p'; exact Heap.lt_size h1
    refine enum_begins1 (begins_tuple a its.toArray) p' fun h' he hit hsz hk => wpAny_pyIter_enum he ?_
    have I2 : Inv X pins σ H1 { s1 with heap := h' } := I1.kept (t' := s1.toks) hk
    refine ⟨s1.heap.objs.size + 1, [s1.heap.objs.size + 1, s1.heap.objs.size], _, _, H1, rfl, I2, turn_enumT a (s1.heap.objs.size + 1) s1.heap.objs.size xs, ⟨⟨.none, he⟩, ⟨_, hit, rfl, rfl⟩, Nat.succ_ne_self _, Nat.ne_of_lt hal, Nat.ne_of_gt (Nat.lt_succ_of_lt hal), Nat.zero_le _⟩, fun b hb => ?_, q⟩
    have e' : b = s1.heap.objs.size + 1 ∨ b = s1.heap.objs.size := by simpa using hb
    have hle : s1.heap.objs.size ≤ b := by
      rcases e' with z | z
      · rw [z]; exact Nat.le_add_right _ _
      · rw [z]; exact Nat.le_refl _
    exact I1.fpOk hle (I1.hok.fresh hle)
/-! ### == and != by an own __eq__ -/
section
variable {X : Cx} {CX : CXT} {n : Nat} {C f : Addr} {fd : FuncData} {ps : List Str} {sp : Sp} {E : XK}
/-- the own method runs somewhere below -/
theorem run_sub {A : Around} {pins : List (Addr × Obj)} {σ : L2.St} {H : Hp} {s : Shared} {Q : VK} {us : List Value} {vs : List V} (F : FnOk X.prog X.w X.K X.mg X.base CX n f fd ps sp) (hb : Binds X.K fd ps []) (hx : Passes CX X E)
    (sb : Sub X n A) (I : Inv X pins σ H s) (r : Vals vs us) (h : sp vs H Q E) : wpAny (model X.prog X.w) A (call (.ref f) us) (EP X pins σ Q) X.xe s := by
  have e0 : Env0 X.prog X.w X.K X.mg X.base A X.stack s H := by
    have e := I.env0
    exact ⟨by rw [sb.fr]; exact e.frames, e.mod, e.bs, e.bsz, e.funs, e.frf, e.hok, e.bare⟩
  have hl : us.length = ps.length := by rw [← r.length]; exact F.len _ _ _ _ h
  refine wpAny_call (codeAny_mono (F.run A X.stack s H ⟨us, []⟩ us vs Q E sb.room e0 (by
    have := hb s us I.kIn (by simpa using hl)
    simpa using this) r h) fun r s' hq => ?_)
  cases r with
  | error e => exact hx pins σ H s e s' I hq
  | ok fl =>
    cases fl with
    | ret w => exact I.after hq
    | next => exact False.elim hq
    | brk => exact False.elim hq
    | cont => exact False.elim hq
/-- x == y, x an instance of the class at C with an own __eq__ that hands back a truth -/
def rEqO (K : PySem.W.Frag) (C : Addr) (sp : Sp) (E : XK) : R2 := fun x y H Q => ∃ a dx fs t, x = .ref a ∧ H a = some (.ins C dx fs) ∧ TyX K H y t ∧ PySem.W.notFirst K C t = true ∧
  sp [x, y] H (fun v H' => ∃ b, v = .bl b ∧ Q (.bl b) H') E
theorem op_eqO (F : FnOk X.prog X.w X.K X.mg X.base CX n f fd ps sp) (hs : PySem.W.findIn X.K (.ref C) "__eq__" = some (some (.ref f))) (hf : PySem.W.isFn X.K (.ref f) = true) (hb : Binds X.K fd ps []) (hx : Passes CX X E)
    (hr : Room n X.A) : OpR X (compareOp .Eq) (rEqO X.K C sp E) := by
  intro pins s σ H x y v u Q I rx ry hq
  obtain ⟨a, dx, fs, t, rfl, ha, ty, nf, q⟩ := hq
  cases (show v = Value.ref a from rx)
  obtain ⟨mA, J, _⟩ := ins_get I.hok ha
  obtain ⟨od, J, _⟩ := J.look
  obtain ⟨m, hF⟩ := I.fr
  obtain ⟨Pz, Z, pz, _⟩ := kit_of I ry ty
  have hu : X.A.units < cLine := Nat.lt_of_succ_lt (hu_of hr)
  refine PySem.W.cmp_K (op := .Eq) (tb := t) hu hF I.ok.mod.kin J (Z.ty _ _ I.kIn pz) nf hs hf ?_
  refine wpAny_mono (run_sub F hb hx ⟨hr, rfl⟩ I (.cons rx (.cons ry .nil)) q) (fun r s' hz => ?_) fun _ _ z => z
  obtain ⟨z, H', I', rz, b, rfl, qb⟩ := hz
  cases (show r = Value.bool b from rz)
  exact ⟨.bl b, H', I', rfl, qb⟩
/-- x != y: the default __ne__ asks the own __eq__ -/
def rNeO (K : PySem.W.Frag) (C : Addr) (sp : Sp) (E : XK) : R2 := fun x y H Q => ∃ a dx fs t, x = .ref a ∧ H a = some (.ins C dx fs) ∧ TyX K H y t ∧ PySem.W.notFirst K C t = true ∧
  sp [x, y] H (fun v H' => ∃ b, v = .bl b ∧ Q (.bl (!b)) H') E
theorem ifBound_B {M : Model} {A : Around} {E : Value → Shared → Prop} {s : Shared} {K : PySem.W.Frag} {x C : Addr} {ox : Obj} {od : Option Obj} {name : Str} {id : String} {args : List Value} {Q : Option Value → Shared → Prop} (X : K.In s.heap) (I : PySem.W.InstAt s.heap x ox C od)
    (hs : PySem.W.findIn K (.ref C) name = some (some (.builtin id))) (hb : ∀ self, bindSpecial (.builtin id) self = pure (.builtin id, [self]))
    (h : wpAny M A (call (.builtin id) (.ref x :: args)) (fun v => Q (some v)) E s) : wpAny M A (callSpecialIfBound? (.ref x) name args) Q E s := by
  simp only [callSpecialIfBound?, bindSpecialIfBound?]
  refine wpAny_holding (wpAny_bind (wpAny_bind (wpAny_bind (I.type.here ((PySem.W.looks_findIn X hs).here ?_)))))
  refine wpAny_bind (wpAny_askSetting (wpAny_ite ?_))
  have fin : wpAny M A (call (.builtin id) ([.ref x] ++ args) >>= fun v => pure (some v)) Q E s := wpAny_bind (wpAny_mono h (fun v s' h' => wpAny_pure h') fun _ _ h' => h')
  have L := (PySem.W.Looks.of_pure (M := M) (h := s.heap) (hb (.ref x)))
  split
  · exact wpAny_bind (L.here (wpAny_pure (by exact fin)))
  · exact wpAny_tryCatch (wpAny_bind (L.here (wpAny_pure (by exact fin))))
theorem op_neO (F : FnOk X.prog X.w X.K X.mg X.base CX n f fd ps sp) (hs : PySem.W.findIn X.K (.ref C) "__eq__" = some (some (.ref f))) (hf : PySem.W.isFn X.K (.ref f) = true) (hb : Binds X.K fd ps []) (hx : Passes CX X E)
    (hn : PySem.W.findIn X.K (.ref C) "__ne__" = some (some (.builtin "object.__ne__"))) (hm : PySem.W.mroIn X.K C (.type "object") = some true)
    (hr : Room (n + 1) X.A) : OpR X (compareOp .NotEq) (rNeO X.K C sp E) := by
  intro pins s σ H x y v u Q I rx ry hq
  obtain ⟨a, dx, fs, t, rfl, ha, ty, nf, q⟩ := hq
  cases (show v = Value.ref a from rx)
  obtain ⟨mA, J, _⟩ := ins_get I.hok ha
  obtain ⟨od, J, _⟩ := J.look
  obtain ⟨Pz, Z, pz, _⟩ := kit_of I ry ty
  have hu : X.A.units < cLine := Nat.lt_of_succ_lt (hu_of hr)
  have hu1 : X.A.in1.units < cLine := hu_of hr
  have K0 := I.kIn
  have run := run_sub F hb hx (A := X.A.in1) ⟨hr.in1, rfl⟩ I (.cons rx (.cons ry .nil)) q
  have one : wpAny (model X.prog X.w) X.A (tryCompare (.ref a) "__ne__" u) (fun r s' => ∃ v, r = some v ∧ EP X pins σ Q v s') X.xe s := by
    unfold tryCompare
    refine wpAny_bind (ifBound_B K0 J hn PySem.F.cmp_object.ne.bind ?_)
    refine wpAny_call (codeAny_call_builtin PySem.F.cmp_object.ne.plain PySem.F.cmpEntry_ne (PySem.W.check_slot (i := "object.__ne__") (owner := "object") (n := "__ne__") PySem.F.cmpKind_ne PySem.F.cmpSplit_ne (J.type.andThen (PySem.W.looks_mroIn K0 hm)) (PySem.F.cmpArgs_ne _ _) ?_))
    unfold Builtin.«object.__ne__»
    refine wpAny_bind (m := slotArgs "__ne__" 1 _) (wpAny_pure ?_)
    refine wpAny_bind (m := cRoomFor _ _) (wpAny_cRoomFor hu1 ?_)
    refine wpAny_bind (m := callSpecialIfBound? (.ref a) (Str.ofString "__eq__") _) (PySem.W.ifBound_K K0 J hs hf (wpAny_mono run (fun r s' hz => ?_) fun _ _ z => z))
    obtain ⟨z, H', I', rz, b, rfl, qb⟩ := hz
    cases (show r = Value.bool b from rz)
    refine wpAny_bind (wpAny_truthy_bool ?_)
    exact wpAny_pure (wpAny_pure ⟨_, rfl, .bl (!b), H', I', rfl, qb⟩)
  show wpAny (model X.prog X.w) X.A (richCompare .NotEq (.ref a) u) (EP X pins σ Q) X.xe s
  unfold richCompare
  simp only [oneThing_ref]
  refine wpAny_holding (wpAny_bind (wpAny_cRoomFor hu ?_))
  refine wpAny_bind (J.type.here (wpAny_bind ((Z.ty _ _ I.kIn pz).here ?_)))
  split
  · rename_i q2
    have e : PySem.W.subIn X.K t (.ref C) = some false := by
      rcases Bool.or_eq_true_iff.mp nf with e | e
      · rw [beq_iff_eq.mp e] at q2; simp at q2
      · exact beq_iff_eq.mp e
    refine wpAny_bind ((PySem.W.looks_subIn K0 e).here ?_)
    simp only [Bool.false_eq_true, if_false]
    refine wpAny_bind (wpAny_mono one (fun r s' z => ?_) fun _ _ e => e)
    obtain ⟨v, rfl, hq⟩ := z
    exact wpAny_pure hq
  · refine wpAny_bind (wpAny_pure ?_)
    simp only [Bool.false_eq_true, if_false]
    refine wpAny_bind (wpAny_mono one (fun r s' z => ?_) fun _ _ e => e)
    obtain ⟨v, rfl, hq⟩ := z
    exact wpAny_pure hq
/-! ### str(x) by an own __str__ -/
def rStrO (C : Addr) (sp : Sp) (E : XK) : List V → Hp → VK → Prop := fun xs H Q => ∃ a dx fs, xs = [.ref a] ∧ H a = some (.ins C dx fs) ∧ sp [.ref a] H (fun v H' => ∃ z, v = .str z ∧ Q (.str z) H') E
theorem call_strO (F : FnOk X.prog X.w X.K X.mg X.base CX n f fd ps sp) (hs : PySem.W.findIn X.K (.ref C) "__str__" = some (some (.ref f))) (hf : PySem.W.isFn X.K (.ref f) = true) (hb : Binds X.K fd ps []) (hx : Passes CX X E)
    (hr : Room (n + 2) X.A) : CallR X (.type "str") (rStrO C sp E) := by
  intro pins s σ H xs us Q I r hq
  obtain ⟨a, dx, fs, rfl, ha, q⟩ := hq
  obtain ⟨u, rfl, rx⟩ : ∃ u, us = [u] ∧ RelV (.ref a) u := by
    cases r with
    | cons r rr => cases rr; exact ⟨_, rfl, r⟩
  cases (show u = Value.ref a from rx)
  obtain ⟨mA, J, _⟩ := ins_get I.hok ha
  obtain ⟨od, J, _⟩ := J.look
  have hr2 : Room n X.A.in1.in1 := hr.in1.in1
  have hu : X.A.in1.in1.units < cLine := Nat.lt_of_succ_lt (hu_of hr2)
  refine PySem.W.kso_call hu I.kIn J hs hf ?_
  refine wpAny_mono (run_sub F hb hx (A := X.A.in1.in1) ⟨hr2, rfl⟩ I (.cons rx .nil) q) (fun r s' hz => ?_) fun _ _ z => z
  obtain ⟨z, H', I', rz, x, rfl, qb⟩ := hz
  obtain ⟨t, e⟩ := (show ∃ t, r = Value.str x t from rz)
  cases e
  exact ⟨.str x, H', I', ⟨t, rfl⟩, qb⟩
/-! ### // by a number of either sign -/
def CDivNW (_ j : Int) : Prop := j ≠ 0 ∧ j.natAbs.log2 < 9000
theorem op_fdivNW : OpR X (binaryOp .FloorDiv) (rI CDivNW fun i j => .int (i.fdiv j)) := opI fun _ _ _ _ _ _ _ hc q => floordiv_int hc.1 q (.inl (PyProof.noPylong_of_log2 hc.2))
end
end TCA
/-! name = {k: v for ..}, the name a local: the dict is stored while the comprehension's block still stands. -/
namespace TCA
open PySem PySem.Spec PyProof.Rows L2
section
variable {X : Cx}
theorem sw_dict {kx vx : Expr} {gs : List Comprehension} {scope : Scope} {pos py : Pos} {y : Str} {l : Nat} {env : Env} (hk : env.scope.kind = .function) (hy : env.scope.names.lookup y = some .local) (hl : (py.line == pos.line) = true)
    (ha : (scope.names.any fun (n, k) => n == y && (k == .local || k == .cell)) = false) : swapsWith (.DictComp kx vx gs scope pos) (some (.Name y py)) l env = pure true := by
  have e1 : env.kindOf y = some .local := hy
  have e2 : env.blockKind = .function := by
    unfold Env.blockKind
    rw [hk]
    rfl
  unfold swapsWith
  simp only [e2, e1, ha, Expr.pos, hl]
  rfl
theorem ps_setDc {i : Nat} {y : Str} {py : Pos} {kx vx tg iter : Expr} {ifs : List Expr} {scope : Scope} {own : List (Str × Nat)} {pos spos : Pos} {wi : TI} {g : TG} {tt : TT} {tk tv : TE} (hc : X.calm = true) (hN : X.N.Nodup) (hy : X.N[i]? = some y) (hyl : X.env.scope.names.lookup y = some .local)
    (hsw : swapsWith (.DictComp kx vx [⟨tg, iter, ifs, 0⟩] scope pos) (some (.Name y py)) spos.line X.env = pure true) (hi : PI X tg iter wi) (ok : BlkOk X.N X.env.scope scope own)
    (hg : ∀ (s : Shared) (H : Hp) (C : Addr) (cl : List (Str × Addr)) (fp : List Addr), PG (X.blk s H scope (compEnvC scope cl C X.env) fp) tg g)
    (ht : ∀ (s : Shared) (H : Hp) (C : Addr) (cl : List (Str × Addr)) (fp : List Addr), PTs (X.blk s H scope (compEnvC scope cl C X.env) fp) ifs tt)
    (hk : ∀ (s : Shared) (H : Hp) (C : Addr) (cl : List (Str × Addr)) (fp : List Addr), PE (X.blk s H scope (compEnvC scope cl C X.env) fp) kx tk)
    (hv : ∀ (s : Shared) (H : Hp) (C : Addr) (cl : List (Str × Addr)) (fp : List Addr), PE (X.blk s H scope (compEnvC scope cl C X.env) fp) vx tv)
    (hs : ∀ x, foldedSetIterable iter X.env x = pure x := by intro _; rfl) :
    PS X (.Assign [.Name y py] (.DictComp kx vx [⟨tg, iter, ifs, 0⟩] scope pos) spos) (tAsg (tDc wi g tt tk tv (own.map (·.2))) (gName i)) := by
  refine ⟨fun pins s σ H D I h => ?_⟩
  rw [exec_Assign_Name_used _ _ _ _ hsw]
  refine wpAny_bind (wpAny_standAt (wpAny_bind ?_))
  show wpAny _ X.A (do let _ ← comprehension (.DictComp kx vx [⟨tg, iter, ifs, 0⟩] scope pos) scope X.env (firstIterPos [⟨tg, iter, ifs, 0⟩] pos) newDict false (eval iter X.env) (some (assign (.Name y py) X.env))) _ _ s
  have h' : tDc wi g tt tk tv (own.map (·.2)) σ H (fun x H1 => gName i x σ H1 D.nx) := h
  have core := dc_core (Qf := fun _ s' => SP X pins D .next s') (pos := pos) (pos' := firstIterPos [⟨tg, iter, ifs, 0⟩] pos) (use := some (assign (.Name y py) X.env)) hc hN I hi ok hg ht hk hv hs h' fun d C s' m H' I' q hn fp => by
    show wpAny _ _ (assign (.Name y py) X.env (.ref d)) _ _ _
    refine wpAny_assign_Name (store_ok2 (v := V.ref d) I' hN hy (.inl hyl) rfl (fun s2 I2 ⟨a, sb, ha⟩ => ?_) (.inr hyl))
    obtain ⟨f0, f1, f2, f3, f4, f5⟩ := fp
    have hCa : C ≠ a := by
      rcases ha with z | z
      · rw [z]
        exact f1
      · exact fun e => f4 y a z e.symm
    exact ⟨m, hn.sameBut sb hCa, fun h3 sb3 => ⟨_, H', I2.turned (t' := s2.toks) (fun b o hb e => (sb3.2 b hb).trans e) f0 f1 f3 f4 f5, q⟩⟩
  exact wpAny_bind (thn core fun _ s' hq => wpAny_pure (wpAny_pure hq))
/-! a for over a list or a tuple, whichever it is -/
theorem seqL_at {K : PySem.W.Frag} {H H' : Hp} {a : Addr} {xs : List V} (e : ∀ u, H a = some u → H' a = some u) (h : SqL K H a xs) : SqL K H' a xs := by
  rcases h with (h | ⟨o, h⟩) | h
  · exact .inl (.inl (e _ h))
  · exact .inl (.inr ⟨o, e _ h⟩)
  · exact .inr h
theorem seqT_at {K : PySem.W.Frag} {H H' : Hp} {a : Addr} {xs : List V} (e : ∀ u, H a = some u → H' a = some u) (h : SqT K H a xs) : SqT K H' a xs := by
  rcases h with (h | ⟨o, h⟩) | h
  · exact .inl (.inl (e _ h))
  · exact .inl (.inr ⟨o, e _ h⟩)
  · exact .inr h
def iSeq (K : PySem.W.Frag) (tl : TE) : TI := fun σ H R => tl σ H fun x H1 => ∃ a xs, x = .ref a ∧ (SqL K H1 a xs ∨ SqT K H1 a xs) ∧ ∀ (J : It) (G : Hp → Prop), (∀ H', (∀ u, H1 a = some u → H' a = some u) → G H') → Walk J xs.length G (YAt xs) → R J H1
theorem pi_seq {tg l : Expr} {tl : TE} (hl : PE X l tl) : PI X tg l (iSeq X.K tl) := by
  refine ⟨fun pins s σ H R I h => thn (hl.run pins s σ H _ I h) fun v s1 ⟨x, H1, I1, r1, q1⟩ => ?_⟩
  obtain ⟨a, xs, ex, hq, q⟩ := q1
  subst ex
  cases r1
  have own : ∀ b ∈ [s1.heap.objs.size], FpOk X pins H1 b := fun b hb => by
    rw [List.mem_singleton.mp hb]
    exact I1.fpOk (Nat.le_refl _) (I1.hok.fresh (Nat.le_refl _))
  rcases hq with hq | hq
  · obtain ⟨its, _, pl, _⟩ := I1.list hq
    exact wpAny_pyIter_list pl.isList ⟨s1.heap.objs.size, [s1.heap.objs.size], _, _, H1, rfl, I1.kept (t' := s1.toks) fun b o e => Heap.get?_push_of_some _ e, turn_list a _, ⟨_, Heap.get?_push_size _ rfl, rfl, rfl⟩, own, q _ _ (fun H' e => seqL_at e hq) walk_list⟩
  · obtain ⟨its, _, pl, _⟩ := I1.tuple hq
    exact wpAny_pyIter_tuple (show s1.heap.IsTuple a its.toArray from pl) ⟨s1.heap.objs.size, [s1.heap.objs.size], _, _, H1, rfl, I1.kept (t' := s1.toks) fun b o e => Heap.get?_push_of_some _ e, turn_tuple a _, ⟨_, Heap.get?_push_size _ rfl, rfl, rfl⟩, own, q _ _ (fun H' e => seqT_at e hq) walk_tup⟩
end
end TCA
namespace TC
open PySem PySem.Spec PyProof.Rows L2 TCX
/-! the text by places -/
def top (i : Nat) : Stmt := PySem.Challenge.pw_turncouple_k23_forms_of_sixes.main.body.getD i (.Pass ⟨0, 0, 0, 0⟩)
abbrev sWhole : Stmt := top 25
abbrev sOdd : Stmt := top 26
abbrev sIsSize : Stmt := top 29
abbrev sNeed : Stmt := top 30
abbrev sCanJoin : Stmt := top 31
abbrev sForms : Stmt := top 33
abbrev sAlike : Stmt := top 34
abbrev sTri : Stmt := top 35
abbrev sFirst : Stmt := top 36
abbrev sForm : Stmt := top 37
abbrev sFormT : Stmt := top 38
abbrev sPen : Stmt := top 40
abbrev sDraw : Stmt := top 41
abbrev sWord : Stmt := top 42
abbrev sSaid : Stmt := top 43
abbrev sFits : Stmt := top 44
abbrev sThird : Stmt := top 45
abbrev sOddL : Stmt := top 46
abbrev sSizesL : Stmt := top 47
abbrev sTriples : Stmt := top 48
abbrev sHalved : Stmt := top 49
abbrev sAllFit : Stmt := top 50
abbrev sSix : Stmt := top 51
abbrev sMoved : Stmt := top 52
abbrev sGood : Stmt := top 53
abbrev sFormL : Stmt := top 54
abbrev sOther : Stmt := top 55
abbrev sWrong : Stmt := top 56
abbrev sLaw : Stmt := top 57
abbrev FnP (K : PySem.W.Frag) (x : Str) (st : Stmt) (f : Addr) (fd : FuncData) : Prop := FunD K x x (defArgs st) (defBody st) (defScope st) [] [] f fd
def dd (x : Str) (st : Stmt) : He.DefD := ⟨(x, none), x, x, defArgs st, defBody st, defScope st, [], []⟩
def fn : List He.DefD := ([dd "is_whole" sWhole, dd "is_odd" sOdd, dd "is_size" sIsSize, dd "need_sizes" sNeed, dd "can_join" sCanJoin, dd "forms_of" sForms, dd "alike_sixes" sAlike, dd "triangles_of" sTri, dd "first_not_joined" sFirst, dd "form_of" sForm, dd "form_of_tuple" sFormT, dd "_law_pen" sPen, dd "_law_draw" sDraw, dd "_law_word" sWord, dd "_law_said" sSaid, dd "_law_fits" sFits] : List He.DefD) ++ ([dd "_law_third" sThird, dd "_law_odd" sOddL, dd "_law_sizes" sSizesL, dd "_law_triples" sTriples, dd "_law_halved" sHalved, dd "_law_all_fit" sAllFit, dd "_law_six_sizes" sSix, dd "_law_moved" sMoved, dd "_law_good" sGood, dd "_law_form" sFormL, dd "_law_other" sOther, dd "_law_wrong" sWrong, dd "law" sLaw] : List He.DefD)
def fa : List He.Fa := ([.glo "TurnError", .glo "NoNumber", .glo "NoSize", .glo "NoOffset", .glo "NoTriple", .glo "NoTable", .glo "TooWide", .glo "NoNet", .glo "NoRow", .glo "NoStanding", .glo "NoTree", .glo "NoWay", .glo "NoHalf", .glo "NoLinking", .glo "NoDeed", .glo "NoQuestion"] : List He.Fa) ++ ([.glo "Empty", .glo "NotParted", .glo "NoText", .glo "NoName", .glo "NoPlace", .glo "ByNought", .glo "NothingDone", .glo "is_whole", .glo "is_odd", .glo "is_size", .glo "need_sizes", .glo "can_join", .glo "forms_of", .glo "alike_sixes", .glo "triangles_of", .glo "first_not_joined"] : List He.Fa) ++ ([.glo "form_of", .glo "form_of_tuple", .glo "_law_pen", .glo "_law_draw", .glo "_law_word", .glo "_law_said", .glo "_law_fits", .glo "_law_third", .glo "_law_odd", .glo "_law_sizes", .glo "_law_triples", .glo "_law_halved", .glo "_law_all_fit", .glo "_law_six_sizes", .glo "_law_moved", .glo "_law_good"] : List He.Fa) ++ ([.glo "_law_form", .glo "_law_other", .glo "_law_wrong", .glo "law", .int "HIGHEST_SIZE" 40, .exc "NoSize", .exc "NoTriple", .free "isinstance", .free "int", .free "bool", .free "abs", .free "min", .free "max", .free "list", .free "range", .free "len"] : List He.Fa) ++ ([.free "repr", .free "ValueError", .free "sum", .free "sorted", .free "tuple", .free "enumerate"] : List He.Fa)
def exB (K : PySem.W.Frag) : Bool := excAll K "NoSize" 9 && excAll K "NoTriple" 15
def tf : List He.Defn := [("law", none)]
def hk : PySem.W.Hook := He.hookX 5 fa fn [] tf exB
abbrev R : PySem.W.OpenRow := PySem.W.OpenLaw.row PySem.Challenge.rw_turncouple_k23_forms_of_sixes
def ob (s : PySem.W.SharedT) : He.AlX := He.obsX 5 fa fn [] tf exB (HandSHeadRun.getT s)
theorem ob_eq (s : PySem.W.SharedT) : ob s = hk.obs s.abs := He.obsX_eq (s := s.abs) (HandSHeadRun.getT_eq s)
def loose : List PySem.Str := (["TurnError", "NoNumber", "NoSize", "NoOffset", "NoTriple", "NoTable", "TooWide", "NoNet", "NoRow", "NoStanding", "NoTree", "NoWay", "NoHalf", "NoLinking", "NoDeed", "NoQuestion"] : List PySem.Str) ++ (["Empty", "NotParted", "NoText", "NoName", "NoPlace", "ByNought", "NothingDone", "is_whole", "is_odd", "HIGHEST_SIZE", "is_size", "need_sizes", "can_join", "forms_of", "alike_sixes", "triangles_of"] : List PySem.Str) ++ (["first_not_joined", "form_of", "form_of_tuple", "_law_pen", "_law_draw", "_law_word", "_law_said", "_law_fits", "_law_third", "_law_odd", "_law_sizes", "_law_triples", "_law_halved", "_law_all_fit", "_law_six_sizes", "_law_moved"] : List PySem.Str) ++ (["_law_good", "_law_form", "_law_other", "_law_wrong"] : List PySem.Str)
end TC
namespace TC
open PySem PySem.Spec PyProof.Rows L2
theorem run (w : World) : HandSHeadRun.RunEq R (PySem.W.view R.prog [57]) hk ob 30000 loose w := by
  intro os
  kernel_rfl
end TC
namespace TC
open PySem PySem.Spec PyProof.Rows L2 TCX
theorem iteNT {c A B : Prop} [Decidable c] (hc : ¬ c) (h : A) : if (!decide c) = true then A else B := by
  rw [decide_eq_false hc]
  exact iteT h
theorem iteD1 {c A B : Prop} [Decidable c] (hc : c) (h : A) : if decide c = true then A else B := by
  rw [decide_eq_true hc]
  exact iteT h
theorem iteD0 {c A B : Prop} [Decidable c] (hc : ¬ c) (h : B) : if decide c = true then A else B := by
  rw [decide_eq_false hc]
  exact iteF h
theorem iteB {b : Bool} {A B : Prop} (h1 : b = true → A) (h2 : b = false → B) : if b = true then A else B := by
  cases b
  · exact iteF (h2 rfl)
  · exact iteT (h1 rfl)
theorem ine {a b : Int} (h : a ≠ b) : ¬ (V.int a = V.int b) := fun e => h (V.int.inj e)
theorem same_upd {H : Hp} {p : Addr} {o : HO} (h : H p = none) : Same H (upd H p o) := fun b x e => by
  rw [upd_ne (ne_of_none e h)]
  exact e
theorem TyX.same {K : PySem.W.Frag} {H H' : Hp} {v : V} {t : Value} (h : TyX K H v t) (s : Same H H') : TyX K H' v t := by
  cases h with
  | base b =>
    cases b with
    | non => exact .base .non
    | bl y => exact .base (.bl y)
    | int i => exact .base (.int i)
    | str y => exact .base (.str y)
    | flt y => exact .base (.flt y)
    | lst e => exact .base (.lst (s _ _ e))
    | frz e => exact .base (.frz (s _ _ e))
    | tup e => exact .base (.tup (s _ _ e))
    | dK e => exact .base (.dK (s _ _ e))
    | dT e => exact .base (.dT (s _ _ e))
    | ins e cl ha hn htk hm => exact .base (.ins (s _ _ e) cl ha hn htk hm)
  | byt y => exact .byt y
  | set e => exact .set (s _ _ e)
  | kList e c => exact .kList e c
  | kTuple e c => exact .kTuple e c
  | kDict e c => exact .kDict e c
  | fTuple e => exact .fTuple (s _ _ e)
  | fDict e => exact .fDict (s _ _ e)
/-- no whole number -/
def NotInt (K : PySem.W.Frag) (H : Hp) (v : V) : Prop := ∃ (t : Value) (bi bb : Bool), TyX K H v t ∧ PySem.W.kitOne K t (.type "int") = some bi ∧ PySem.W.kitOne K t (.type "bool") = some bb ∧ (bi && !bb) = false
/-- whether v is a size -/
def Siz (K : PySem.W.Frag) (H : Hp) (v : V) (b : Bool) : Prop := (∃ n : Int, v = .int n ∧ b = (decide (0 ≤ n) && decide (n ≤ 40))) ∨ (b = false ∧ NotInt K H v)
theorem NotInt.same {K : PySem.W.Frag} {H H' : Hp} {v : V} (h : NotInt K H v) (s : Same H H') : NotInt K H' v := by
  obtain ⟨t, bi, bb, h1, h2⟩ := h
  exact ⟨t, bi, bb, TyX.same h1 s, h2⟩
theorem Siz.same {K : PySem.W.Frag} {H H' : Hp} {v : V} {b : Bool} (h : Siz K H v b) (s : Same H H') : Siz K H' v b := by
  rcases h with h | ⟨e, h⟩
  · exact .inl h
  · exact .inr ⟨e, h.same s⟩
theorem Siz.int {K : PySem.W.Frag} {H : Hp} {n : Int} (h0 : 0 ≤ n) (h1 : n ≤ 40) : Siz K H (.int n) true := .inl ⟨n, rfl, by rw [decide_eq_true h0, decide_eq_true h1]; rfl⟩
section
variable {P : Program} {w : World} {K : PySem.W.Frag} {mg : Str → Option Value} {base : Heap} {f : Addr} {fd : FuncData}
/-! ### is_whole -/
def spWhole (K : PySem.W.Frag) : Sp := fun vs H Q _ => (∃ n : Int, vs = [.int n] ∧ Q (.bl true) H) ∨ ∃ v, vs = [v] ∧ NotInt K H v ∧ Q (.bl false) H
theorem scWhole : FnScope ["thing"] ["thing"] (defScope sWhole) := ⟨rfl, rfl, rfl, by decide +kernel, rfl, by decide +kernel, by decide +kernel⟩
theorem ok_whole (F : FnP K "is_whole" sWhole f fd) (gI : mg "isinstance" = none) (gi : mg "int" = none) (gb : mg "bool" = none) : FnOk P w K mg base CX0 1 f fd ["thing"] (spWhole K) := by
  refine F.ok scWhole (fun vs H Q E h => ?_) (fun cdv A outer s H vs Q E hr h => ?_)
  · rcases h with ⟨n, rfl, _⟩ | ⟨v, rfl, _⟩ <;> rfl
  · refine ⟨_, PSs.nox (pss_one (ps_ret (pe_and (pe_callB call_isi (by rfl) gI (by decide +kernel) (pa_cons (pv 0) (pa_cons (pe_bltn (v := .ty "int") (by rfl) gi (by decide +kernel) rfl) pa_nil)))
      (pe_one (pe_not (pe_callB call_isi (by rfl) gI (by decide +kernel) (pa_cons (pv 0) (pa_cons (pe_bltn (v := .ty "bool") (by rfl) gb (by decide +kernel) rfl) pa_nil)))))))), ?_⟩
    rcases h with ⟨n, rfl, q⟩ | ⟨v, rfl, ⟨t, bi, bb, ty, ki, kb, e⟩, q⟩
    · refine ⟨_, rfl, _, _, _, _, true, rfl, .ty "int", .base (.int n), kit_ty (by decide +kernel), true, rfl, iteT ?_⟩
      exact ⟨_, rfl, _, _, _, _, false, rfl, .ty "bool", .base (.int n), kit_ty (by decide +kernel), false, rfl, q⟩
    · refine ⟨_, rfl, _, _, _, _, bi, rfl, .ty "int", ty, ki, bi, rfl, iteB (fun z => ?_) fun z => ?_⟩
      · subst z
        refine ⟨_, rfl, _, _, _, _, bb, rfl, .ty "bool", ty, kb, bb, rfl, ?_⟩
        have e2 : (!bb) = false := e
        rw [e2]
        exact q
      · exact q
/-! ### is_odd -/
def spOdd : Sp := fun vs H Q _ => ∃ n : Int, vs = [.int n] ∧ Q (.bl (decide (n % 2 = 1))) H
theorem scOdd : FnScope ["number"] ["number"] (defScope sOdd) := ⟨rfl, rfl, rfl, by decide +kernel, rfl, by decide +kernel, by decide +kernel⟩
theorem dec_int {a b : Int} : decide (V.int a = V.int b) = decide (a = b) := by
  by_cases h : a = b
  · rw [decide_eq_true h, decide_eq_true (congrArg V.int h)]
  · rw [decide_eq_false h, decide_eq_false (ine h)]
theorem ok_odd (F : FnP K "is_odd" sOdd f fd) : FnOk P w K mg base CX0 1 f fd ["number"] spOdd := by
  refine F.ok scOdd (fun vs H Q E h => ?_) (fun cdv A outer s H vs Q E hr h => ?_)
  · obtain ⟨n, rfl, _⟩ := h
    rfl
  · obtain ⟨n, rfl, q⟩ := h
    refine ⟨_, PSs.nox (pss_one (ps_ret (pe_cmpR op_eq (pe_op op_mod (pv 0) pe_int) pe_int (nomark _)))), ?_⟩
    refine ⟨_, rfl, n, 2, rfl, rfl, (show (0 : Int) < 2 by decide), rfl, ?_⟩
    rw [dec_int]
    exact q
/-! ### is_size -/
def spIsSize (K : PySem.W.Frag) : Sp := fun vs H Q _ => ∃ v b, vs = [v] ∧ Siz K H v b ∧ Q (.bl b) H
theorem scIsSize : FnScope ["thing"] ["thing"] (defScope sIsSize) := ⟨rfl, rfl, rfl, by decide +kernel, rfl, by decide +kernel, by decide +kernel⟩
theorem ok_isSize {fW : Addr} {fdW : FuncData} {t40 : Tok} (F : FnP K "is_size" sIsSize f fd) (GW : FnOk P w K mg base CX0 1 fW fdW ["thing"] (spWhole K)) (bW : L2.Binds K fdW ["thing"] []) (kW : PySem.W.keepIn K (.ref fW) = true) (gW : mg "is_whole" = some (.ref fW)) (gH : mg "HIGHEST_SIZE" = some (.int 40 t40)) :
    FnOk P w K mg base CX0 2 f fd ["thing"] (spIsSize K) := by
  refine F.ok scIsSize (fun vs H Q E h => ?_) (fun cdv A outer s H vs Q E hr h => ?_)
  · obtain ⟨v, b, rfl, _⟩ := h
    rfl
  · refine ⟨_, PSs.nox (pss_one (ps_ret (pe_and (pe_call GW hr (by rfl) gW kW bW .nil pass0 (pa_cons (pv 0) pa_nil))
      (pe_one (pe_chain op_le op_le pe_int (pv 0) (pe_glob (v := .int 40) (by rfl) gH ⟨_, rfl⟩)))))), ?_⟩
    obtain ⟨v, b, rfl, ⟨n, rfl, e⟩ | ⟨e, z⟩, q⟩ := h
    · refine ⟨_, rfl, .inl ⟨n, rfl, true, rfl, iteT ?_⟩⟩
      subst e
      refine ⟨_, rfl, 0, n, rfl, rfl, _, rfl, iteB (fun h => ?_) fun h => ?_⟩
      · rw [h] at q
        exact ⟨n, 40, rfl, rfl, q⟩
      · rw [h] at q
        exact q
    · subst e
      exact ⟨_, rfl, .inr ⟨v, rfl, z, false, rfl, iteF q⟩⟩
/-! ### need_sizes -/
def spNeed (K : PySem.W.Frag) (CS : Addr) : Sp := fun vs H Q E => ∃ (a : Addr) (xs : List V) (bs : List Bool), vs = [.ref a] ∧ SqL K H a xs ∧ Paired (Siz K H) xs bs ∧ (bs.all id = true → Q .non H) ∧ (bs.all id = false → E (.ref CS) none H)
theorem scNeed : FnScope ["things", "thing"] ["things"] (defScope sNeed) := ⟨rfl, rfl, rfl, by decide +kernel, rfl, by decide +kernel, by decide +kernel⟩
/-- what the program's text says of an exception class without fields -/
structure XTxt (K : PySem.W.Frag) (mg : Str → Option Value) (x : Str) (C : Addr) : Prop where
  g : mg x = some (.ref C)
  e : PySem.W.excIn K C He.veBase "ValueError.__new__" = true
  k : PySem.W.keepIn K (.ref C) = true
  b : PySem.W.subIn K (.ref C) (.type "BaseException") = some true
  t : PySem.W.typeIn K (.ref C) = some (.type "type")
theorem paired_at {α β : Type} {R : α → β → Prop} : ∀ {xs : List α} {ys : List β}, Paired R xs ys → ∀ (i : Nat) (x : α), xs[i]? = some x → ∃ y, ys[i]? = some y ∧ R x y
  | _, _, .nil, i, x, h => by cases h
  | _, _, .cons r t, 0, x, h => by
    cases h
    exact ⟨_, rfl, r⟩
  | _, _, .cons r t, i + 1, x, h => paired_at t i x h
theorem paired_len {α β : Type} {R : α → β → Prop} : ∀ {xs : List α} {ys : List β}, Paired R xs ys → xs.length = ys.length
  | _, _, .nil => rfl
  | _, _, .cons r t => congrArg (· + 1) (paired_len t)
theorem all_take {bs : List Bool} {i : Nat} {b : Bool} (h : (bs.take i).all id = true) (hb : bs[i]? = some b) (h2 : b = true) : (bs.take (i + 1)).all id = true := by
  rw [List.take_add_one, List.all_append, h, hb]
  subst h2
  rfl
theorem all_false {bs : List Bool} {i : Nat} (hb : bs[i]? = some false) : bs.all id = false := by
  refine List.all_eq_false.mpr ⟨false, List.mem_of_getElem? hb, fun z => Bool.noConfusion z⟩
theorem ok_need {fS CS : Addr} {fdS : FuncData} (F : FnP K "need_sizes" sNeed f fd) (GS : FnOk P w K mg base CX0 2 fS fdS ["thing"] (spIsSize K)) (bS : L2.Binds K fdS ["thing"] []) (kS : PySem.W.keepIn K (.ref fS) = true) (gS : mg "is_size" = some (.ref fS)) (T : XTxt K mg "NoSize" CS) :
    FnOk P w K mg base (L2.CX P w) 3 f fd ["things"] (spNeed K CS) := by
  refine F.ok scNeed (fun vs H Q E h => ?_) (fun cdv A outer s H vs Q E hr h => ?_)
  · obtain ⟨a, xs, bs, rfl, _⟩ := h
    rfl
  · obtain ⟨a, xs, bs, rfl, hS, hp, hq, he⟩ := h
    refine ⟨_, pss_one (ps_for (passes_of rfl) rfl (pi_list (pv 0)) (pg_name (i := 1) scNeed.nd rfl (.inl rfl))
      (pss_one (ps_if (pt_not (pt_val (pe_call GS hr (by rfl) gS kS bS .nil pass0 (pa_cons (pv 1) pa_nil))))
        (pss_one (ps_raise rfl (takes_of rfl rfl rfl rfl) (pmk_own PySem.F.excBase_ValueError T.e T.g T.k (raises_own T.b T.t) rfl))) pss_nil))), ?_⟩
    refine ⟨_, rfl, a, rfl, ⟨_, hS⟩, for_list (K := K) (a := a) (xs := xs) (fun i σ H' => (∃ y, σ = [some (.ref a), y]) ∧ H' = H ∧ (bs.take i).all id = true) ⟨⟨none, rfl⟩, rfl, rfl⟩ (fun i σ H' _ z => by rw [z.2.1]; exact hS) (fun i x σ H' hx z => ?_) (fun σ H' z => ?_)⟩
    · obtain ⟨⟨y, rfl⟩, rfl, hb⟩ := z
      obtain ⟨b, hbi, hs⟩ := paired_at hp i x hx
      refine ⟨_, rfl, x, b, rfl, hs, b, rfl, ?_⟩
      cases b with
      | true => exact iteF ⟨⟨_, rfl⟩, rfl, all_take hb hbi rfl⟩
      | false => exact iteT (he (all_false hbi))
    · obtain ⟨⟨y, rfl⟩, rfl, hb⟩ := z
      rw [paired_len hp, List.take_length] at hb
      exact hq hb
/-! ### can_join -/
def canJ (a b c : Int) : Bool := if (a + b + c) % 2 = 1 then false else decide (a ≤ b + c) && (decide (b ≤ a + c) && decide (c ≤ a + b))
def spCan : Sp := fun vs H Q _ => ∃ a b c : Int, vs = [.int a, .int b, .int c] ∧ Q (.bl (canJ a b c)) H
theorem scCan : FnScope ["one", "other", "third"] ["one", "other", "third"] (defScope sCanJoin) := ⟨rfl, rfl, rfl, by decide +kernel, rfl, by decide +kernel, by decide +kernel⟩
theorem ok_can {fO : Addr} {fdO : FuncData} (F : FnP K "can_join" sCanJoin f fd) (GO : FnOk P w K mg base CX0 1 fO fdO ["number"] spOdd) (bO : L2.Binds K fdO ["number"] []) (kO : PySem.W.keepIn K (.ref fO) = true) (gO : mg "is_odd" = some (.ref fO)) :
    FnOk P w K mg base CX0 2 f fd ["one", "other", "third"] spCan := by
  refine F.ok scCan (fun vs H Q E h => ?_) (fun cdv A outer s H vs Q E hr h => ?_)
  · obtain ⟨a, b, c, rfl, _⟩ := h
    rfl
  · obtain ⟨a, b, c, rfl, q⟩ := h
    refine ⟨_, PSs.nox (pss_cons (ps_if (pt_val (pe_call GO hr (by rfl) gO kO bO .nil pass0 (pa_cons (pe_op op_add (pe_op op_add (pv 0) (pv 1)) (pv 2)) pa_nil))) (pss_one (ps_ret pe_bl)) pss_nil)
      (pss_one (ps_ret (pe_and (pe_cmpR op_le (pv 0) (pe_op op_add (pv 1) (pv 2)) (nomark _)) (pe_and (pe_cmpR op_le (pv 1) (pe_op op_add (pv 0) (pv 2)) (nomark _)) (pe_one (pe_cmpR op_le (pv 2) (pe_op op_add (pv 0) (pv 1)) (nomark _)))))))), ?_⟩
    refine ⟨_, rfl, _, rfl, a, b, rfl, rfl, _, rfl, _, c, rfl, rfl, _, rfl, _, rfl, ?_⟩
    unfold canJ at q
    by_cases h : (a + b + c) % 2 = 1
    · rw [if_pos h] at q
      exact iteD1 h q
    · rw [if_neg h] at q
      refine iteD0 h ?_
      refine ⟨_, rfl, _, rfl, _, rfl, b, c, rfl, rfl, a, _, rfl, rfl, _, rfl, iteB (fun h1 => ?_) fun h1 => ?_⟩
      · rw [h1] at q
        refine ⟨_, rfl, _, rfl, _, rfl, a, c, rfl, rfl, b, _, rfl, rfl, _, rfl, iteB (fun h2 => ?_) fun h2 => ?_⟩
        · rw [h2] at q
          exact ⟨_, rfl, _, rfl, _, rfl, a, b, rfl, rfl, c, _, rfl, rfl, q⟩
        · rw [h2] at q
          exact q
      · rw [h1] at q
        exact q
end
end TC
namespace TC
open PySem PySem.Spec PyProof.Rows L2 TCA TCX
section
variable {P : Program} {w : World} {K : PySem.W.Frag} {mg : Str → Option Value} {base : Heap} {f : Addr} {fd : FuncData}
/-! ### _law_pen -/
def spPen (K : PySem.W.Frag) : Sp := fun vs H Q _ => ∃ (a : Addr) (ns : List Int), vs = [.ref a] ∧ SqL K H a (ns.map V.int) ∧ ns.length ≤ 63 ∧
  ∀ (p c : Addr) (ms : List Int) H', Same H H' → H p = none → H' p = some (.lst [.ref c, .int 0, .int 0]) → H' c = some (.lst (ms.map V.int)) → p ≠ c → Q (.ref p) H'
theorem scPen : FnScope ["_law_script"] ["_law_script"] (defScope sPen) := ⟨rfl, rfl, rfl, by decide +kernel, rfl, by decide +kernel, by decide +kernel⟩
theorem ok_pen (F : FnP K "_law_pen" sPen f fd) (gl : mg "list" = none) : FnOk P w K mg base CX0 1 f fd ["_law_script"] (spPen K) := by
  refine F.ok scPen (fun vs H Q E h => ?_) (fun cdv A outer s H vs Q E hr h => ?_)
  · obtain ⟨a, ns, rfl, _⟩ := h
    rfl
  · obtain ⟨a, ns, rfl, hS, hn, q⟩ := h
    refine ⟨_, PSs.nox (pss_one (ps_ret (pe_lst (pa_cons (pe_callTy call_list_of (by rfl) gl (by decide +kernel) (pa_cons (pe_slice sl_list (pv 0) po_none (po_some pe_int)) pa_nil)) (pa_cons pe_int (pa_cons pe_int pa_nil)))))), ?_⟩
    refine ⟨_, rfl, _, rfl, a, _, rfl, hS, fun c1 hc1 => ?_⟩
    have sm1 := same_upd (o := .lst (cutV (ns.map V.int) none (some 63))) hc1
    refine ⟨c1, _, rfl, .inl (SqL.of upd_same), fun c hc => ?_⟩
    have sm2 := same_upd (o := .lst (cutV (ns.map V.int) none (some 63))) hc
    refine ⟨by show 3 ≤ sizeLine; decide, fun p hp => ?_⟩
    have sm3 := same_upd (o := .lst [.ref c, .int 0, .int 0]) hp
    have ec : cutV (ns.map V.int) none (some 63) = ((ns.drop (HT.sIx (ns.map V.int).length 0 none)).take (HT.sIx (ns.map V.int).length (ns.map V.int).length (some 63) - HT.sIx (ns.map V.int).length 0 none)).map V.int := by
      rw [List.map_take, List.map_drop]
      rfl
    refine q p c ((ns.drop (HT.sIx (ns.map V.int).length 0 none)).take (HT.sIx (ns.map V.int).length (ns.map V.int).length (some 63) - HT.sIx (ns.map V.int).length 0 none)) _ ((sm1.trans sm2).trans sm3) ((sm1.trans sm2).free hp) upd_same ?_ ?_
    · rw [← ec]
      exact sm3 _ _ upd_same
    · exact fun e => by
        rw [e, upd_same] at hp
        cases hp
/-! ### _law_draw -/
/-- the pen: its cells at c, where it stands, what is left of a great cell -/
def PenAt (H : Hp) (p c : Addr) (ms : List Int) (n : Int) : Prop := ∃ left : Int, H p = some (.lst [.ref c, .int n, .int left]) ∧ H c = some (.lst (ms.map V.int)) ∧ p ≠ c
/-- all but the pen is as it was -/
def SameBut (p : Addr) (H H' : Hp) : Prop := ∀ b o, b ≠ p → H b = some o → H' b = some o
def spDraw : Sp := fun vs H Q _ => ∃ (p c : Addr) (ms : List Int) (n m : Int), vs = [.ref p, .int m] ∧ PenAt H p c ms n ∧ 0 ≤ n ∧ n ≤ 1000000 ∧ 0 < m ∧ m < 2 ^ 1000 ∧
  ∀ (d n' : Int) H', 0 ≤ d → d < m → n ≤ n' → n' ≤ n + 1 → PenAt H' p c ms n' → SameBut p H H' → Q (.int d) H'
theorem scDraw : FnScope ["_law_pen_here", "_law_many", "_law_found", "_law_at", "_law_cell", "_law_number"] ["_law_pen_here", "_law_many"] (defScope sDraw) := ⟨rfl, rfl, rfl, by decide +kernel, rfl, by decide +kernel, by decide +kernel⟩
theorem but_upd {p : Addr} {H H1 : Hp} {o : HO} (s : SameBut p H H1) : SameBut p H (upd H1 p o) := fun b x hb e => by
  rw [upd_ne hb]
  exact s b x hb e
set_option exponentiation.threshold 2000 in
theorem wdiv {i m : Int} (h : 0 < m) (h2 : m < 2 ^ 1000) : CDivW i m := ⟨h, Nat.lt_of_lt_of_le (PySem.Flt.log2_lt_of (show 0 < 1000 by decide) (show m.natAbs < 2 ^ 1000 by omega)) (by decide)⟩
theorem ok_draw (F : FnP K "_law_draw" sDraw f fd) (gl : mg "len" = none) : FnOk P w K mg base CX0 1 f fd ["_law_pen_here", "_law_many"] spDraw := by
  refine F.ok scDraw (fun vs H Q E h => ?_) (fun cdv A outer s H vs Q E hr h => ?_)
  · obtain ⟨p, c, ms, n, m, rfl, _⟩ := h
    rfl
  · obtain ⟨p, c, ms, n, m, rfl, ⟨left, hp, hc, hpc⟩, n0, n1, m0, m1, q⟩ := h
    refine ⟨_, PSs.nox (pss_cons (ps_if (pt_cmpR op_gt (pe_ix ix_list (pv 0) pe_int (fun _ _ => rfl)) pe_int (nomark _))
        (pss_cons (ps_set (i := 2) scDraw.nd rfl (.inl rfl) (pe_op op_mod (pe_ix ix_list (pv 0) pe_int (fun _ _ => rfl)) (pv 1)))
        (pss_cons (ps_asg (pe_op op_fdivW (pe_ix ix_list (pv 0) pe_int (fun _ _ => rfl)) (pv 1)) (pg_sub (pv 0) pe_int set_list))
        (pss_one (ps_ret (pv 2))))) pss_nil)
      (pss_cons (ps_set (i := 3) scDraw.nd rfl (.inl rfl) (pe_ix ix_list (pv 0) pe_int (fun _ _ => rfl)))
      (pss_cons (ps_asg (pe_op op_add (pv 3) pe_int) (pg_sub (pv 0) pe_int set_list))
      (pss_cons (ps_set (i := 4) scDraw.nd rfl (.inl rfl) pe_int)
      (C8.pss_cut (ps_if (pt_cmpR op_gt (pe_callB call_len_seq (by rfl) gl PySem.boot_len (pa_cons (pe_ix ix_list (pv 0) pe_int (fun _ _ => rfl)) pa_nil)) pe_int (nomark _))
        (pss_one (ps_set (i := 4) scDraw.nd rfl (.inl rfl) (pe_ix ix_list (pe_ix ix_list (pv 0) pe_int (fun _ _ => rfl)) (pe_op op_mod (pv 3) (pe_callB call_len_seq (by rfl) gl PySem.boot_len (pa_cons (pe_ix ix_list (pv 0) pe_int (fun _ _ => rfl)) pa_nil))) (fun _ _ => rfl)))) pss_nil)
      (C8.pss_cut (ps_if (PW.pt (pw_and (pt_cmpR op_lt (pv 3) (pe_callB call_len_seq (by rfl) gl PySem.boot_len (pa_cons (pe_ix ix_list (pv 0) pe_int (fun _ _ => rfl)) pa_nil)) (nomark _)) (pw_and1 (pt_cmpR op_ge (pv 4) (pe_op op_pow pe_int pe_int) (nomark _)))))
        (pss_cons (ps_asg (pe_op op_fdivW (pv 4) (pv 1)) (pg_sub (pv 0) pe_int set_list)) (pss_one (ps_ret (pe_op op_mod (pv 4) (pv 1))))) pss_nil)
      (pss_cons (ps_set (i := 5) scDraw.nd rfl (.inl rfl) (pe_op op_mod (pe_op op_mul (pe_op op_add (pe_op op_mod (pv 4) pe_int) pe_int) (pe_op op_add (pe_op op_add (pe_op op_mul (pv 3) (pv 3)) (pe_op op_mul pe_int (pv 3))) pe_int)) pe_int))
      (pss_cons (ps_set (i := 5) scDraw.nd rfl (.inl rfl) (pe_op op_mod (pe_op op_mul (pe_op op_mod (pe_op op_add (pe_op op_pow (pv 5) pe_int) (pe_op op_mul pe_int (pv 3))) pe_int) pe_int) pe_int))
      (C8.pss_cut (ps_if (pt_cmpR op_gt (pv 1) (pe_op op_pow pe_int pe_int) (nomark _))
        (pss_one (ps_set (i := 5) scDraw.nd rfl (.inl rfl) (pe_op op_add (pe_op op_mul (pv 5) pe_int) (pe_op op_mod (pe_op op_mul (pe_op op_mod (pv 5) pe_int) pe_int) pe_int)))) pss_nil)
      (pss_one (ps_ret (pe_op op_mod (pe_op op_fdiv (pv 5) pe_int) (pv 1))))))))))))), ?_⟩
    have i2 : atI ([.ref c, .int n, .int left] : List V) 2 = some (.int left) := atI_nat (j := 2) rfl
    have i1 : atI ([.ref c, .int n, .int left] : List V) 1 = some (.int n) := atI_nat (j := 1) rfl
    refine ⟨_, rfl, p, _, 2, _, rfl, rfl, SqL.of hp, i2, left, 0, rfl, rfl, _, rfl, ?_⟩
    by_cases hl : 0 < left
    · refine iteD1 hl ?_
      refine ⟨_, rfl, p, _, 2, _, rfl, rfl, SqL.of hp, i2, _, rfl, left, m, rfl, rfl, m0, ?_⟩
      refine ⟨_, rfl, p, _, 2, _, rfl, rfl, SqL.of hp, i2, _, rfl, left, m, rfl, rfl, wdiv m0 m1, ?_⟩
      refine ⟨_, rfl, p, _, 2, 2, rfl, rfl, hp, rfl, ?_⟩
      refine ⟨_, rfl, ?_⟩
      exact q _ n _ (Int.emod_nonneg _ (by omega)) (Int.emod_lt_of_pos _ m0) (by omega) (by omega) ⟨left / m, upd_same, by rw [upd_ne hpc.symm]; exact hc, hpc⟩ (but_upd fun _ _ _ e => e)
    · refine iteD0 hl ?_
      refine ⟨_, rfl, p, _, 1, _, rfl, rfl, SqL.of hp, i1, ?_⟩
      refine ⟨_, rfl, n, 1, rfl, rfl, _, rfl, p, _, 1, 1, rfl, rfl, hp, rfl, ?_⟩
      have hp2u : (upd H p (.lst [.ref c, .int (n + 1), .int left])) p = some (.lst [.ref c, .int (n + 1), .int left]) := upd_same
      have hc2u : (upd H p (.lst [.ref c, .int (n + 1), .int left])) c = some (.lst (ms.map V.int)) := by
        rw [upd_ne hpc.symm]
        exact hc
      obtain ⟨H2, eH2⟩ : ∃ H2 : Hp, upd H p (.lst [.ref c, .int (n + 1), .int left]) = H2 := ⟨_, rfl⟩
      have hp2 : H2 p = some (.lst [.ref c, .int (n + 1), .int left]) := by
        rw [← eH2]
        exact hp2u
      have hc2 : H2 c = some (.lst (ms.map V.int)) := by
        rw [← eH2]
        exact hc2u
      have sb : SameBut p H H2 := by
        rw [← eH2]
        exact but_upd fun _ _ _ e => e
      have j0 : atI ([.ref c, .int (n + 1), .int left] : List V) 0 = some (.ref c) := atI_nat (j := 0) rfl
      refine ⟨fun σ H' => ∃ cell : Int, σ = [some (.ref p), some (.int m), none, some (.int n), some (.int cell), none] ∧ H' = H2, ?_, fun σ' H' hM => ?_⟩
      · refine ⟨_, rfl, p, _, 0, _, rfl, rfl, SqL.of hp2u, j0, c, _, rfl, .inl (SqL.of hc2u), _, 0, rfl, rfl, _, rfl, ite2 (fun e => ?_) (fun e => ?_)⟩
        · have e2 : 0 < ((ms.map V.int).length : Int) := of_decide_eq_true e
          rw [List.length_map] at e2
          have hk0 := Int.emod_nonneg n (show (ms.length : Int) ≠ 0 by omega)
          have hk1 := Int.emod_lt_of_pos n e2
          have hk : (n % (ms.length : Int)).toNat < ms.length := by omega
          refine ⟨_, rfl, p, _, 0, _, rfl, rfl, SqL.of hp2u, j0, _, rfl, _, rfl, p, _, 0, _, rfl, rfl, SqL.of hp2u, j0, c, _, rfl, .inl (SqL.of hc2u), n, _, rfl, rfl, by
            show 0 < ((ms.map V.int).length : Int)
            rw [List.length_map]
            exact e2, c, _, _, .int (ms[(n % (ms.length : Int)).toNat]), rfl, rfl, SqL.of hc2u, ?_, ?_⟩
          · rw [List.length_map]
            exact at_of (j := (n % (ms.length : Int)).toNat) (by omega) (by rw [List.getElem?_map, List.getElem?_eq_getElem hk]; rfl)
          · exact ⟨_, rfl, eH2⟩
        · exact ⟨7, rfl, eH2⟩
      · obtain ⟨cell, rfl, eM⟩ := hM
        replace eM := eM.symm
        subst eM
        refine ⟨fun σ H' => σ = [some (.ref p), some (.int m), none, some (.int n), some (.int cell), none] ∧ H' = H2, ?_, fun σ' H' hM => ?_⟩
        · refine ⟨_, rfl, _, rfl, p, _, 0, _, rfl, rfl, SqL.of hp2, j0, c, _, rfl, .inl (SqL.of hc2), n, _, rfl, rfl, _, rfl, ite2 (fun _ => ?_) (fun _ => iteF ⟨rfl, rfl⟩)⟩
          refine ⟨_, rfl, 10, 18, rfl, rfl, ⟨by decide, by decide, by decide⟩, cell, _, rfl, rfl, _, rfl, ite2 (fun _ => ?_) (fun _ => ⟨rfl, rfl⟩)⟩
          refine ⟨_, rfl, _, rfl, cell, m, rfl, rfl, wdiv m0 m1, _, rfl, p, _, 2, 2, rfl, rfl, hp2, rfl, ?_⟩
          refine ⟨_, rfl, _, rfl, cell, m, rfl, rfl, m0, ?_⟩
          exact q _ (n + 1) _ (Int.emod_nonneg _ (by omega)) (Int.emod_lt_of_pos _ m0) (by omega) (by omega) ⟨cell / m, upd_same, by rw [upd_ne hpc.symm]; exact hc2, hpc⟩ (but_upd sb)
        · obtain ⟨rfl, eM⟩ := hM
          replace eM := eM.symm
          subst eM
          have c0 := Int.emod_nonneg cell (show (2147483629 : Int) ≠ 0 by decide)
          have c1 := Int.emod_lt_of_pos cell (show (0 : Int) < 2147483629 by decide)
          refine ⟨_, rfl, cell, 2147483629, rfl, rfl, (show (0 : Int) < 2147483629 by decide), _, 11, rfl, rfl, _, rfl, _, rfl, n, n, rfl, rfl, .inl ⟨by omega, by omega⟩, _, rfl, 5, n, rfl, rfl, .inl ⟨by decide, by decide⟩, _, _, rfl, rfl, _, 3, rfl, rfl, _, _, rfl, rfl, .inl ⟨by omega, by omega⟩, _, 2147483647, rfl, rfl, (show (0 : Int) < 2147483647 by decide), ?_⟩
          have hz2 : ∀ z : Int, (z % 2147483647).natAbs < 2 ^ 64 := fun z => by
            have d0 := Int.emod_nonneg z (show (2147483647 : Int) ≠ 0 by decide)
            have d1 := Int.emod_lt_of_pos z (show (0 : Int) < 2147483647 by decide)
            omega
          refine ⟨_, rfl, _, 3, rfl, rfl, ⟨by decide, by decide, hz2 _⟩, _, rfl, 69621, n, rfl, rfl, .inl ⟨by decide, by decide⟩, _, _, rfl, rfl, _, 2147483587, rfl, rfl, (show (0 : Int) < 2147483587 by decide), _, 40692, rfl, rfl, .inr ⟨by decide, by decide⟩, _, 2147483399, rfl, rfl, (show (0 : Int) < 2147483399 by decide), ?_⟩
          refine ⟨fun σ H' => ∃ z : Int, σ = [some (.ref p), some (.int m), none, some (.int n), some (.int cell), some (.int z)] ∧ H' = H2, ?_, fun σ' H' hM => ?_⟩
          · refine ⟨_, rfl, 10, 6, rfl, rfl, ⟨by decide, by decide, by decide⟩, m, _, rfl, rfl, _, rfl, ite2 (fun _ => ?_) (fun _ => ⟨_, rfl, rfl⟩)⟩
            exact ⟨_, rfl, _, 2147483629, rfl, rfl, .inr ⟨by decide, by decide⟩, _, rfl, _, 1000003, rfl, rfl, (show (0 : Int) < 1000003 by decide), _, 48271, rfl, rfl, .inr ⟨by decide, by decide⟩, _, 2147483587, rfl, rfl, (show (0 : Int) < 2147483587 by decide), _, _, rfl, rfl, _, rfl, rfl⟩
          · obtain ⟨z, rfl, eM⟩ := hM
            replace eM := eM.symm
            subst eM
            refine ⟨_, rfl, z, 64, rfl, rfl, ⟨by decide, by decide⟩, _, rfl, _, m, rfl, rfl, m0, ?_⟩
            exact q _ (n + 1) _ (Int.emod_nonneg _ (by omega)) (Int.emod_lt_of_pos _ m0) (by omega) (by omega) ⟨left, hp2, hc2, hpc⟩ sb
end
theorem Same.but {H H' : Hp} {p : Addr} (s : Same H H') : SameBut p H H' := fun b o _ e => s b o e
theorem SameBut.trans {H H1 H2 : Hp} {p : Addr} (s : SameBut p H H1) (t : SameBut p H1 H2) : SameBut p H H2 := fun b o n e => t b o n (s b o n e)
theorem SameBut.refl {H : Hp} {p : Addr} : SameBut p H H := fun _ _ _ e => e
theorem SameBut.new {H H1 : Hp} {p q : Addr} {o : HO} (s : SameBut p H H1) (n : H1 q = none) : SameBut p H (upd H1 q o) := s.trans (Same.but (same_upd n))
theorem PenAt.same {H H' : Hp} {p c : Addr} {ms : List Int} {n : Int} (h : PenAt H p c ms n) (s : Same H H') : PenAt H' p c ms n := by
  obtain ⟨l, h1, h2, h3⟩ := h
  exact ⟨l, s _ _ h1, s _ _ h2, h3⟩
theorem PenAt.new {H : Hp} {p c q : Addr} {ms : List Int} {n : Int} {o : HO} (h : PenAt H p c ms n) (hq : H q = none) : PenAt (upd H q o) p c ms n := h.same (same_upd hq)
theorem PenAt.ne {H : Hp} {p c q : Addr} {ms : List Int} {n : Int} (h : PenAt H p c ms n) (hq : H q = none) : q ≠ p := by
  obtain ⟨l, h1, h2, h3⟩ := h
  exact fun e => by rw [e, h1] at hq; cases hq
end TC
namespace TC
open PySem PySem.Spec PyProof.Rows L2 TCX
/-- what _law_word reads of the module -/
structure WTxt (K : PySem.W.Frag) (mg : Str → Option Value) : Prop where
  g : ∀ (i : Nat) {x : Str}, clsN[i]? = some x → mg x = some (.ref (He.ga K x))
  gT : mg "TurnError" = some (.ref (He.ga K "TurnError"))
  gV : mg "ValueError" = none
  is : mg "isinstance" = none
section
variable {P : Program} {w : World} {K : PySem.W.Frag} {mg : Str → Option Value} {base : Heap} {f : Addr} {fd : FuncData}
/-! ### _law_word, of a class under TurnError -/
def spWord (K : PySem.W.Frag) : Sp := fun vs H Q _ => ∃ (a D : Addr) (n : Nat), vs = [.ref a] ∧ H a = some (ExV (.ref D) none a) ∧ Kind K D n ∧ n < 18 ∧ ∀ H', Same H H' → Q (.str (words.getD n "")) H'
theorem scWord : FnScope ["_law_e", "_law_words", "_law_some", "_law_at", "_law_under"] ["_law_e"] (defScope sWord) := ⟨rfl, rfl, rfl, by decide +kernel, rfl, by decide +kernel, by decide +kernel⟩
def bits (n : Nat) : List Bool := (List.range 22).map fun i => i == n
theorem bits_all : ∀ n, n < 22 → (((bits n).map V.bl).countP fun z => eqV z (.bl true)) = 1 ∧ (bits n)[n]? = some true ∧ (∀ m, m < n → (bits n)[m]? = some false) := by decide
theorem words_at : ∀ n, n < 22 → words[n]? = some (words.getD n "") := by decide
theorem ok_word (F : FnP K "_law_word" sWord f fd) (T : WTxt K mg) : FnOk P w K mg base CX0 1 f fd ["_law_e"] (spWord K) := by
  refine F.ok scWord (fun vs H Q E h => ?_) (fun cdv A outer s H vs Q E hr h => ?_)
  · obtain ⟨_, _, _, rfl, _⟩ := h
    rfl
  · obtain ⟨a, D, n, rfl, ha, kd, n18, q⟩ := h
    refine ⟨_, PSs.nox
    (pss_cons (ps_set (i := 1) scWord.nd rfl (.inl rfl) (pe_lst (pa_cons pe_str (pa_cons pe_str (pa_cons pe_str (pa_cons pe_str (pa_cons pe_str (pa_cons pe_str (pa_cons pe_str (pa_cons pe_str (pa_cons pe_str (pa_cons pe_str (pa_cons pe_str pa_nil)))))))))))))
    (C8.pss_cut (ps_set (i := 1) scWord.nd rfl (.inl rfl) (pe_op op_cat (pv 1) (pe_lst (pa_cons pe_str (pa_cons pe_str (pa_cons pe_str (pa_cons pe_str (pa_cons pe_str (pa_cons pe_str (pa_cons pe_str (pa_cons pe_str (pa_cons pe_str (pa_cons pe_str (pa_cons pe_str pa_nil))))))))))))))
    (C8.pss_cut (ps_set (i := 2) scWord.nd rfl (.inl rfl) (pe_lst (pa_cons (pe_callB call_isV (by rfl) T.is (by decide +kernel) (pa_cons (pv 0) (pa_cons (pe_glob (v := .ref (He.ga K "Empty")) (by rfl) (T.g 0 rfl) rfl) pa_nil))) (pa_cons (pe_callB call_isV (by rfl) T.is (by decide +kernel) (pa_cons (pv 0) (pa_cons (pe_glob (v := .ref (He.ga K "NoDeed")) (by rfl) (T.g 1 rfl) rfl) pa_nil))) (pa_cons (pe_callB call_isV (by rfl) T.is (by decide +kernel) (pa_cons (pv 0) (pa_cons (pe_glob (v := .ref (He.ga K "NoHalf")) (by rfl) (T.g 2 rfl) rfl) pa_nil))) (pa_cons (pe_callB call_isV (by rfl) T.is (by decide +kernel) (pa_cons (pv 0) (pa_cons (pe_glob (v := .ref (He.ga K "NoLinking")) (by rfl) (T.g 3 rfl) rfl) pa_nil))) pa_nil))))))
    (C8.pss_cut (ps_set (i := 2) scWord.nd rfl (.inl rfl) (pe_op op_cat (pv 2) (pe_lst (pa_cons (pe_callB call_isV (by rfl) T.is (by decide +kernel) (pa_cons (pv 0) (pa_cons (pe_glob (v := .ref (He.ga K "NoNet")) (by rfl) (T.g 4 rfl) rfl) pa_nil))) (pa_cons (pe_callB call_isV (by rfl) T.is (by decide +kernel) (pa_cons (pv 0) (pa_cons (pe_glob (v := .ref (He.ga K "NoNumber")) (by rfl) (T.g 5 rfl) rfl) pa_nil))) (pa_cons (pe_callB call_isV (by rfl) T.is (by decide +kernel) (pa_cons (pv 0) (pa_cons (pe_glob (v := .ref (He.ga K "NoOffset")) (by rfl) (T.g 6 rfl) rfl) pa_nil))) (pa_cons (pe_callB call_isV (by rfl) T.is (by decide +kernel) (pa_cons (pv 0) (pa_cons (pe_glob (v := .ref (He.ga K "NoQuestion")) (by rfl) (T.g 7 rfl) rfl) pa_nil))) pa_nil)))))))
    (C8.pss_cut (ps_set (i := 2) scWord.nd rfl (.inl rfl) (pe_op op_cat (pv 2) (pe_lst (pa_cons (pe_callB call_isV (by rfl) T.is (by decide +kernel) (pa_cons (pv 0) (pa_cons (pe_glob (v := .ref (He.ga K "NoRow")) (by rfl) (T.g 8 rfl) rfl) pa_nil))) (pa_cons (pe_callB call_isV (by rfl) T.is (by decide +kernel) (pa_cons (pv 0) (pa_cons (pe_glob (v := .ref (He.ga K "NoSize")) (by rfl) (T.g 9 rfl) rfl) pa_nil))) (pa_cons (pe_callB call_isV (by rfl) T.is (by decide +kernel) (pa_cons (pv 0) (pa_cons (pe_glob (v := .ref (He.ga K "NoStanding")) (by rfl) (T.g 10 rfl) rfl) pa_nil))) (pa_cons (pe_callB call_isV (by rfl) T.is (by decide +kernel) (pa_cons (pv 0) (pa_cons (pe_glob (v := .ref (He.ga K "NoTable")) (by rfl) (T.g 11 rfl) rfl) pa_nil))) pa_nil)))))))
    (C8.pss_cut (ps_set (i := 2) scWord.nd rfl (.inl rfl) (pe_op op_cat (pv 2) (pe_lst (pa_cons (pe_callB call_isV (by rfl) T.is (by decide +kernel) (pa_cons (pv 0) (pa_cons (pe_glob (v := .ref (He.ga K "NoText")) (by rfl) (T.g 12 rfl) rfl) pa_nil))) (pa_cons (pe_callB call_isV (by rfl) T.is (by decide +kernel) (pa_cons (pv 0) (pa_cons (pe_glob (v := .ref (He.ga K "NotParted")) (by rfl) (T.g 13 rfl) rfl) pa_nil))) (pa_cons (pe_callB call_isV (by rfl) T.is (by decide +kernel) (pa_cons (pv 0) (pa_cons (pe_glob (v := .ref (He.ga K "NoTree")) (by rfl) (T.g 14 rfl) rfl) pa_nil))) (pa_cons (pe_callB call_isV (by rfl) T.is (by decide +kernel) (pa_cons (pv 0) (pa_cons (pe_glob (v := .ref (He.ga K "NoTriple")) (by rfl) (T.g 15 rfl) rfl) pa_nil))) pa_nil)))))))
    (C8.pss_cut (ps_set (i := 2) scWord.nd rfl (.inl rfl) (pe_op op_cat (pv 2) (pe_lst (pa_cons (pe_callB call_isV (by rfl) T.is (by decide +kernel) (pa_cons (pv 0) (pa_cons (pe_glob (v := .ref (He.ga K "NoWay")) (by rfl) (T.g 16 rfl) rfl) pa_nil))) (pa_cons (pe_callB call_isV (by rfl) T.is (by decide +kernel) (pa_cons (pv 0) (pa_cons (pe_glob (v := .ref (He.ga K "TooWide")) (by rfl) (T.g 17 rfl) rfl) pa_nil))) (pa_cons (pe_callB call_isV (by rfl) T.is (by decide +kernel) (pa_cons (pv 0) (pa_cons (pe_glob (v := .ref (He.ga K "ByNought")) (by rfl) (T.g 18 rfl) rfl) pa_nil))) (pa_cons (pe_callB call_isV (by rfl) T.is (by decide +kernel) (pa_cons (pv 0) (pa_cons (pe_glob (v := .ref (He.ga K "NoName")) (by rfl) (T.g 19 rfl) rfl) pa_nil))) pa_nil)))))))
    (C8.pss_cut (ps_set (i := 2) scWord.nd rfl (.inl rfl) (pe_op op_cat (pv 2) (pe_lst (pa_cons (pe_callB call_isV (by rfl) T.is (by decide +kernel) (pa_cons (pv 0) (pa_cons (pe_glob (v := .ref (He.ga K "NoPlace")) (by rfl) (T.g 20 rfl) rfl) pa_nil))) (pa_cons (pe_callB call_isV (by rfl) T.is (by decide +kernel) (pa_cons (pv 0) (pa_cons (pe_glob (v := .ref (He.ga K "NothingDone")) (by rfl) (T.g 21 rfl) rfl) pa_nil))) pa_nil)))))
    (pss_cons (ps_if (pt_cmpR op_ne (pe_bm PySem.F.plainAttrs_list PySem.F.slot_list_count PySem.F.type_list_count mt_count (pv 2) (pa_cons pe_bl pa_nil)) pe_int (nomark _)) (pss_one (ps_ret pe_str)) pss_nil)
    (pss_cons (ps_set (i := 3) scWord.nd rfl (.inl rfl) (pe_bm PySem.F.plainAttrs_list PySem.F.slot_list_index PySem.F.type_list_index mt_index (pv 2) (pa_cons pe_bl pa_nil)))
    (pss_cons (ps_if (pt_cmpR op_lt (pv 3) pe_int (nomark _)) (pss_one (ps_ret (pe_ifExp (PW.pt (pw_and (pt_val (pe_callB call_isV (by rfl) T.is (by decide +kernel) (pa_cons (pv 0) (pa_cons (pe_glob (v := .ref (He.ga K "TurnError")) (by rfl) T.gT rfl) pa_nil)))) (pw_and1 (pt_val (pe_callB call_isV (by rfl) T.is (by decide +kernel) (pa_cons (pv 0) (pa_cons (pe_bltn (v := .ty "ValueError") (by rfl) T.gV (by decide +kernel) rfl) pa_nil))))))) (pe_ix ix_list (pv 1) (pv 3) (fun _ _ => rfl)) pe_str))) pss_nil)
      pss_never))))))))))), ?_⟩
    refine ⟨by show 11 ≤ sizeLine; decide, fun l0 hl0 => ?_⟩
    have s0 := same_upd (o := .lst ((words.take 11).map V.str)) hl0
    refine ⟨fun σ H1 => ∃ pw, σ = [some (.ref a), some (.ref pw), none, none, none] ∧ H1 pw = some (.lst (words.map V.str)) ∧ Same H H1, ?_, fun σ1 H1 h1 => ?_⟩
    · refine ⟨_, rfl, by show 11 ≤ sizeLine; decide, fun l1 hl1 => ?_⟩
      have s1 := same_upd (o := .lst ((words.drop 11).map V.str)) hl1
      refine ⟨_, _, _, _, rfl, rfl, s1 _ _ upd_same, upd_same, by show 22 ≤ sizeLine; decide, fun p hp => ?_⟩
      exact ⟨p, rfl, upd_same, (s0.trans s1).trans (same_upd hp)⟩
    obtain ⟨pw, rfl, hw, sm⟩ := h1
    have ha0 := sm _ _ ha
    refine ⟨fun σ H2 => ∃ ps, σ = [some (.ref a), some (.ref pw), some (.ref ps), none, none] ∧ H2 pw = some (.lst (words.map V.str)) ∧ H2 ps = some (.lst (((bits n).take 4).map V.bl)) ∧ Same H H2, ?_, fun σ2 H2 h2 => ?_⟩
    · refine ⟨_, rfl, a, D, _, _, _, rfl, ha0, kd.ec, fun _ r => r, kd.kits.at 0 rfl, _, rfl, a, D, _, _, _, rfl, ha0, kd.ec, fun _ r => r, kd.kits.at 1 rfl, _, rfl, a, D, _, _, _, rfl, ha0, kd.ec, fun _ r => r, kd.kits.at 2 rfl, _, rfl, a, D, _, _, _, rfl, ha0, kd.ec, fun _ r => r, kd.kits.at 3 rfl, by show 4 ≤ sizeLine; decide, fun l hl => ?_⟩
      exact ⟨l, rfl, (same_upd hl) _ _ hw, upd_same, sm.trans (same_upd hl)⟩
    obtain ⟨ps, rfl, hw, hs, sm⟩ := h2
    have ha1 := sm _ _ ha
    refine ⟨fun σ H3 => ∃ ps, σ = [some (.ref a), some (.ref pw), some (.ref ps), none, none] ∧ H3 pw = some (.lst (words.map V.str)) ∧ H3 ps = some (.lst (((bits n).take 8).map V.bl)) ∧ Same H H3, ?_, fun σ2 H3 h2 => ?_⟩
    · refine ⟨_, rfl, _, rfl, a, D, _, _, _, rfl, ha1, kd.ec, fun _ r => r, kd.kits.at 4 rfl, _, rfl, a, D, _, _, _, rfl, ha1, kd.ec, fun _ r => r, kd.kits.at 5 rfl, _, rfl, a, D, _, _, _, rfl, ha1, kd.ec, fun _ r => r, kd.kits.at 6 rfl, _, rfl, a, D, _, _, _, rfl, ha1, kd.ec, fun _ r => r, kd.kits.at 7 rfl, by show 4 ≤ sizeLine; decide, fun l hl => ?_⟩
      have s1 := same_upd (o := .lst (([4 == n, 5 == n, 6 == n, 7 == n] : List Bool).map V.bl)) hl
      refine ⟨_, _, _, _, rfl, rfl, s1 _ _ hs, upd_same, by show 8 ≤ sizeLine; decide, fun p hp => ?_⟩
      exact ⟨p, rfl, (same_upd hp) _ _ (s1 _ _ hw), upd_same, (sm.trans s1).trans (same_upd hp)⟩
    obtain ⟨ps, rfl, hw, hs, sm⟩ := h2
    have ha2 := sm _ _ ha
    refine ⟨fun σ H4 => ∃ ps, σ = [some (.ref a), some (.ref pw), some (.ref ps), none, none] ∧ H4 pw = some (.lst (words.map V.str)) ∧ H4 ps = some (.lst (((bits n).take 12).map V.bl)) ∧ Same H H4, ?_, fun σ2 H4 h2 => ?_⟩
    · refine ⟨_, rfl, _, rfl, a, D, _, _, _, rfl, ha2, kd.ec, fun _ r => r, kd.kits.at 8 rfl, _, rfl, a, D, _, _, _, rfl, ha2, kd.ec, fun _ r => r, kd.kits.at 9 rfl, _, rfl, a, D, _, _, _, rfl, ha2, kd.ec, fun _ r => r, kd.kits.at 10 rfl, _, rfl, a, D, _, _, _, rfl, ha2, kd.ec, fun _ r => r, kd.kits.at 11 rfl, by show 4 ≤ sizeLine; decide, fun l hl => ?_⟩
      have s1 := same_upd (o := .lst (([8 == n, 9 == n, 10 == n, 11 == n] : List Bool).map V.bl)) hl
      refine ⟨_, _, _, _, rfl, rfl, s1 _ _ hs, upd_same, by show 12 ≤ sizeLine; decide, fun p hp => ?_⟩
      exact ⟨p, rfl, (same_upd hp) _ _ (s1 _ _ hw), upd_same, (sm.trans s1).trans (same_upd hp)⟩
    obtain ⟨ps, rfl, hw, hs, sm⟩ := h2
    have ha3 := sm _ _ ha
    refine ⟨fun σ H5 => ∃ ps, σ = [some (.ref a), some (.ref pw), some (.ref ps), none, none] ∧ H5 pw = some (.lst (words.map V.str)) ∧ H5 ps = some (.lst (((bits n).take 16).map V.bl)) ∧ Same H H5, ?_, fun σ2 H5 h2 => ?_⟩
    · refine ⟨_, rfl, _, rfl, a, D, _, _, _, rfl, ha3, kd.ec, fun _ r => r, kd.kits.at 12 rfl, _, rfl, a, D, _, _, _, rfl, ha3, kd.ec, fun _ r => r, kd.kits.at 13 rfl, _, rfl, a, D, _, _, _, rfl, ha3, kd.ec, fun _ r => r, kd.kits.at 14 rfl, _, rfl, a, D, _, _, _, rfl, ha3, kd.ec, fun _ r => r, kd.kits.at 15 rfl, by show 4 ≤ sizeLine; decide, fun l hl => ?_⟩
      have s1 := same_upd (o := .lst (([12 == n, 13 == n, 14 == n, 15 == n] : List Bool).map V.bl)) hl
      refine ⟨_, _, _, _, rfl, rfl, s1 _ _ hs, upd_same, by show 16 ≤ sizeLine; decide, fun p hp => ?_⟩
      exact ⟨p, rfl, (same_upd hp) _ _ (s1 _ _ hw), upd_same, (sm.trans s1).trans (same_upd hp)⟩
    obtain ⟨ps, rfl, hw, hs, sm⟩ := h2
    have ha4 := sm _ _ ha
    refine ⟨fun σ H6 => ∃ ps, σ = [some (.ref a), some (.ref pw), some (.ref ps), none, none] ∧ H6 pw = some (.lst (words.map V.str)) ∧ H6 ps = some (.lst (((bits n).take 20).map V.bl)) ∧ Same H H6, ?_, fun σ2 H6 h2 => ?_⟩
    · refine ⟨_, rfl, _, rfl, a, D, _, _, _, rfl, ha4, kd.ec, fun _ r => r, kd.kits.at 16 rfl, _, rfl, a, D, _, _, _, rfl, ha4, kd.ec, fun _ r => r, kd.kits.at 17 rfl, _, rfl, a, D, _, _, _, rfl, ha4, kd.ec, fun _ r => r, kd.kits.at 18 rfl, _, rfl, a, D, _, _, _, rfl, ha4, kd.ec, fun _ r => r, kd.kits.at 19 rfl, by show 4 ≤ sizeLine; decide, fun l hl => ?_⟩
      have s1 := same_upd (o := .lst (([16 == n, 17 == n, 18 == n, 19 == n] : List Bool).map V.bl)) hl
      refine ⟨_, _, _, _, rfl, rfl, s1 _ _ hs, upd_same, by show 20 ≤ sizeLine; decide, fun p hp => ?_⟩
      exact ⟨p, rfl, (same_upd hp) _ _ (s1 _ _ hw), upd_same, (sm.trans s1).trans (same_upd hp)⟩
    obtain ⟨ps, rfl, hw, hs, sm⟩ := h2
    have ha5 := sm _ _ ha
    refine ⟨fun σ H7 => ∃ ps, σ = [some (.ref a), some (.ref pw), some (.ref ps), none, none] ∧ H7 pw = some (.lst (words.map V.str)) ∧ H7 ps = some (.lst (((bits n).take 22).map V.bl)) ∧ Same H H7, ?_, fun σ2 H7 h2 => ?_⟩
    · refine ⟨_, rfl, _, rfl, a, D, _, _, _, rfl, ha5, kd.ec, fun _ r => r, kd.kits.at 20 rfl, _, rfl, a, D, _, _, _, rfl, ha5, kd.ec, fun _ r => r, kd.kits.at 21 rfl, by show 2 ≤ sizeLine; decide, fun l hl => ?_⟩
      have s1 := same_upd (o := .lst (([20 == n, 21 == n] : List Bool).map V.bl)) hl
      refine ⟨_, _, _, _, rfl, rfl, s1 _ _ hs, upd_same, by show 22 ≤ sizeLine; decide, fun p hp => ?_⟩
      exact ⟨p, rfl, (same_upd hp) _ _ (s1 _ _ hw), upd_same, (sm.trans s1).trans (same_upd hp)⟩
    obtain ⟨ps, rfl, hw, hs, sm⟩ := h2
    have ha7 := sm _ _ ha
    obtain ⟨c1, c2, c3⟩ := bits_all n (by omega)
    have hs2 : H7 ps = some (.lst ((bits n).map V.bl)) := hs
    have fl : ((bits n).map V.bl).all flatV = true := by
      rw [List.all_map]
      exact List.all_eq_true.mpr fun _ _ => rfl
    refine ⟨_, rfl, .inl ⟨rfl, _, SqL.of hs2⟩, ps, _, _, rfl, rfl, SqL.of hs2, rfl, fl, rfl, _, rfl, iteNS (congrArg V.int (by rw [c1]; rfl)) ?_⟩
    refine ⟨_, rfl, .inl ⟨rfl, _, SqL.of hs2⟩, ps, _, _, n, _, rfl, rfl, SqL.of hs2, rfl, fl, by rw [List.getElem?_map, c2]; rfl, rfl, fun m z hm hz => ?_, ?_⟩
    · rw [List.getElem?_map, c3 m hm] at hz
      cases hz
      rfl
    refine ⟨_, rfl, _, 18, rfl, rfl, _, rfl, iteD1 (by omega) ?_⟩
    refine ⟨_, rfl, a, D, _, _, _, rfl, ha7, kd.ec, fun _ r => r, kd.te, _, rfl, iteD1 n18 ?_⟩
    refine ⟨_, rfl, a, D, _, _, _, rfl, ha7, kd.ec, fun _ r => r, kd.ve, _, rfl, iteD1 n18 ?_⟩
    refine ⟨_, rfl, _, rfl, pw, _, _, _, rfl, rfl, SqL.of hw, atI_nat (by rw [List.getElem?_map, words_at n (by omega)]; rfl), ?_⟩
    exact q _ sm
end
end TC
namespace TC
open PySem PySem.Spec PyProof.Rows L2 TCX
/-- a wish may be made stronger -/
theorem pe_weak {X : Cx} {e : Expr} {t : TE} (he : PE X e t) : PE X e (fun σ H Q => ∃ Q' : VK, (∀ v H', Q' v H' → Q v H') ∧ t σ H Q') := by
  refine ⟨fun pins s σ H Q I h => ?_⟩
  obtain ⟨Q', m, h⟩ := h
  refine wpAny_mono (he.run pins s σ H Q' I h) (fun u s' z => ?_) fun _ _ z => z
  obtain ⟨v, H1, I1, r, q⟩ := z
  exact ⟨v, H1, I1, r, m v H1 q⟩
/-! ### _law_said, handed a lambda -/
/-- what _law_said makes of the lambda's reading tl: refusals are of classes under TurnError without fields -/
def TSaid (K : PySem.W.Frag) : (XK → Hp → VK → Prop) → Hp → VK → Prop := fun tl H Q => ∀ H1, Same H H1 →
  tl (fun cls d H' => ∃ (D : Addr) (n : Nat), cls = .ref D ∧ d = none ∧ Kind K D n ∧ n < 18 ∧ PySem.W.exmAny K (.ref D) [.ref (He.ga K "TurnError")] = some true ∧ ∀ p H2, Same H' H2 → H2 p = some (.tup [.str "refused", .str (words.getD n "")]) → Q (.ref p) H2)
    H1 (fun v H' => ∀ p, H' p = none → Q (.ref p) (upd H' p (.tup [.str "told", v])))
theorem scSaid : FnScope ["_law_call", "_law_told", "_law_error", "_law_e"] ["_law_call"] (defScope sSaid) := ⟨rfl, rfl, rfl, by decide +kernel, rfl, by decide +kernel, by decide +kernel⟩
structure STxt (K : PySem.W.Frag) (mg : Str → Option Value) : Prop where
  g1 : mg "TurnError" = some (.ref (He.ga K "TurnError"))
  g2 : mg "ByNought" = some (.ref (He.ga K "ByNought"))
  g3 : mg "NoName" = some (.ref (He.ga K "NoName"))
  g4 : mg "NoPlace" = some (.ref (He.ga K "NoPlace"))
  g5 : mg "NothingDone" = some (.ref (He.ga K "NothingDone"))
theorem said_gives {X : Cx} {g fW : Addr} {fdW : FuncData} {cdg : Value} {q : Str} (T : STxt X.K X.mg) (GW : FnOk X.prog X.w X.K X.mg X.base CX0 1 fW fdW ["_law_e"] (spWord X.K)) (bW : L2.Binds X.K fdW ["_law_e"] []) (kW : PySem.W.keepIn X.K (.ref fW) = true) (gW : X.mg "_law_word" = some (.ref fW)) (hr : Room 2 X.A) :
    LamX.GivesTo X ["_law_call", "_law_told", "_law_error", "_law_e"] "_law_said" (defScope sSaid) g cdg (defBody sSaid) "_law_call" q (TSaid X.K) := by
  intro f c' s H Q tl act hc h
  have hr' : Room 1 (cxOf C8.CX0 X.prog X.w X.K X.mg X.base ["_law_call", "_law_told", "_law_error", "_law_e"] "_law_said" (defScope sSaid) g cdg X.A X.stack s H C8.E0).nox.A := hr.deeper _
  refine ⟨_, pss_cons (ps_asg (pe_tup (pa_cons pe_non (pa_cons pe_non pa_nil))) (pg_tup rfl (pgs_cons (pg_name (i := 1) scSaid.nd rfl (.inl rfl)) (pgs_cons (pg_name (i := 2) scSaid.nd rfl (.inl rfl)) pgs_nil))))
    (pss_cons (ps_try_keep (tb := fun W D σ H => ∃ (Ech : XK) (Qn : VK), (∀ cls d σ' H', Ech cls d H' → W cls d σ' H') ∧ (∀ v H', Qn v H' → D.nx (σ.set 1 (some v)) H') ∧ σ[0]? = some (some (.ref f)) ∧ H c' = some (LamX.CodeO c' q) ∧ tl Ech H Qn) rfl rfl rfl scSaid.nd (fun W pn xe tk _ => ?_)
      (HdK.cons (i := 3) (cs := [.ref (He.ga X.K "TurnError")]) (fun cls b z => ?_) rfl rfl (fun a cls d pn => pss_one (ps_set (i := 2) scSaid.nd rfl (.inl rfl) (pv 3)))
      (HdK.cons (i := 3) (cs := [.ref (He.ga X.K "ByNought"), .ref (He.ga X.K "NoName"), .ref (He.ga X.K "NoPlace"), .ref (He.ga X.K "NothingDone")]) (fun cls b z => ?_) rfl rfl (fun a cls d pn => pss_one (ps_set (i := 2) scSaid.nd rfl (.inl rfl) (pv 3))) HdK.nil)))
    (pss_one (ps_ret (pe_ifExp (pt_cmpR op_isN (pv 2) pe_non (nomark _)) (pe_tup (pa_cons pe_str (pa_cons (pv 1) pa_nil)))
      (pe_tup (pa_cons pe_str (pa_cons (pe_call GW hr' (by rfl) gW kW bW .nil (E := E0) pass0 (pa_cons (pv 2) pa_nil)) pa_nil))))))), ?_⟩
  · refine ⟨fun pins s' σ H' D I h' => ?_⟩
    obtain ⟨Ech, Qn, hW, hn, h1, h2, h3⟩ := h'
    exact (pss_one (ps_set (i := 1) scSaid.nd rfl (.inl rfl) (pe_weak (act W pn xe Ech _ _ tk hW)))).run pins s' σ H' D I ⟨Qn, hn, h1, h2, h3⟩
  · refine tst_name ⟨rfl, by decide, .inl T.g1⟩ ?_
    obtain ⟨b1, d1, z1, z2, z3⟩ := PySem.W.exmAny_cons z
    cases (show some false = some d1 from z2)
    rw [z1, z3, Bool.or_false]
  · exact tst_tup4 ⟨rfl, by decide, .inl T.g2⟩ ⟨rfl, by decide, .inl T.g3⟩ ⟨rfl, by decide, .inl T.g4⟩ ⟨rfl, by decide, .inl T.g5⟩ z
  · refine ⟨by show 2 ≤ sizeLine; decide, fun t ht => ⟨t, _, rfl, SqT.of upd_same, rfl, _, _, rfl, _, _, rfl, rfl, ?_⟩⟩
    have s1 := same_upd (o := .tup [.non, .non]) ht
    refine ⟨_, _, fun cls d σ' H' z => ?_, ?_, rfl, s1 _ _ hc, h _ s1⟩
    · intro hl
      obtain ⟨D, n, rfl, rfl, kd, n18, hx, hq⟩ := z
      match σ', hl with
      | [x0, x1, x2, x3], _ =>
        refine ⟨true, hx, fun _ a ha => ?_, fun z => Bool.noConfusion z⟩
        have s2 := same_upd (o := ExV (.ref D) none a) ha
        refine ⟨_, rfl, _, rfl, rfl, _, rfl, iteD0 (fun z => by cases z) ?_⟩
        refine ⟨_, rfl, a, D, n, rfl, upd_same, kd, n18, fun H2 s3 => ?_⟩
        exact ⟨by show 2 ≤ sizeLine; decide, fun p hp => hq p _ ((s2.trans s3).trans (same_upd hp)) upd_same⟩
    · exact fun v H' hv => ⟨_, rfl, rfl, _, rfl, iteD1 rfl ⟨_, rfl, by show 2 ≤ sizeLine; decide, fun p hp => hv p hp⟩⟩
end TC
namespace TC
open PySem PySem.Spec PyProof.Rows L2 TCA TCX
section
variable {P : Program} {w : World} {K : PySem.W.Frag} {mg : Str → Option Value} {base : Heap} {f fD : Addr} {fd fdD : FuncData}
theorem at4 {a b c d : V} {i : Int} (h0 : 0 ≤ i) (h1 : i < 4) : atI [a, b, c, d] i = some ([a, b, c, d].getD i.toNat a) := by
  have : i = 0 ∨ i = 1 ∨ i = 2 ∨ i = 3 := by omega
  rcases this with rfl | rfl | rfl | rfl <;> exact atI_nat rfl
/-! ### _law_fits -/
def fitsB (a b c : Int) : Bool := decide ((a + b + c) % 2 = 0) && (decide (c ≤ a + b) && (decide (a ≤ b + c) && decide (b ≤ a + c)))
def spFits : Sp := fun vs H Q _ => ∃ a b c : Int, vs = [.int a, .int b, .int c] ∧ Q (.bl (fitsB a b c)) H
theorem scFits : FnScope ["_law_a", "_law_b", "_law_c"] ["_law_a", "_law_b", "_law_c"] (defScope sFits) := ⟨rfl, rfl, rfl, by decide +kernel, rfl, by decide +kernel, by decide +kernel⟩
theorem ok_fits (F : FnP K "_law_fits" sFits f fd) : FnOk P w K mg base CX0 1 f fd ["_law_a", "_law_b", "_law_c"] spFits := by
  refine F.ok scFits (fun vs H Q E h => ?_) (fun cdv A outer s H vs Q E hr h => ?_)
  · obtain ⟨a, b, c, rfl, _⟩ := h
    rfl
  · obtain ⟨a, b, c, rfl, q⟩ := h
    refine ⟨_, PSs.nox (pss_one (ps_ret (pe_and (pe_cmpR op_eq (pe_op op_mod (pe_op op_add (pe_op op_add (pv 0) (pv 1)) (pv 2)) pe_int) pe_int (nomark _)) (pe_and (pe_cmpR op_le (pv 2) (pe_op op_add (pv 0) (pv 1)) (nomark _))
      (pe_and (pe_cmpR op_le (pv 0) (pe_op op_add (pv 1) (pv 2)) (nomark _)) (pe_one (pe_cmpR op_le (pv 1) (pe_op op_add (pv 0) (pv 2)) (nomark _)))))))), ?_⟩
    unfold fitsB at q
    refine ⟨_, rfl, _, rfl, a, b, rfl, rfl, _, rfl, _, c, rfl, rfl, _, 2, rfl, rfl, (show (0 : Int) < 2 by decide), rfl, _, rfl, ?_⟩
    rw [dec_int]
    refine iteB (fun h => ?_) fun h => by rw [h] at q; exact q
    rw [h] at q
    refine ⟨_, rfl, _, rfl, _, rfl, a, b, rfl, rfl, c, _, rfl, rfl, _, rfl, iteB (fun h => ?_) fun h => by rw [h] at q; exact q⟩
    rw [h] at q
    refine ⟨_, rfl, _, rfl, _, rfl, b, c, rfl, rfl, a, _, rfl, rfl, _, rfl, iteB (fun h => ?_) fun h => by rw [h] at q; exact q⟩
    rw [h] at q
    exact ⟨_, rfl, _, rfl, _, rfl, a, c, rfl, rfl, b, _, rfl, rfl, q⟩
end
end TC
namespace TC
open PySem PySem.Spec PyProof.Rows L2 TCA TCX
section
variable {P : Program} {w : World} {K : PySem.W.Frag} {mg : Str → Option Value} {base : Heap} {f fD fF : Addr} {fd fdD fdF : FuncData}
/-! ### _law_third -/
/-- the whole numbers from 0 to k - 1 that fit -/
def fitL (a b : Int) (k : Nat) : List Int := ((List.range k).map fun i => (0 : Int) + (i : Nat)).filter (fitsB a b)
theorem fitL_succ (a b : Int) (k : Nat) : fitL a b (k + 1) = fitL a b k ++ (if fitsB a b (0 + (k : Nat)) = true then [0 + ((k : Nat) : Int)] else []) := by
  unfold fitL
  rw [List.range_succ, List.map_append, List.filter_append]
  congr 1
  show List.filter (fitsB a b) [0 + ((k : Nat) : Int)] = _
  by_cases h : fitsB a b (0 + (k : Nat)) = true
  · rw [if_pos h, List.filter_cons_of_pos h]
    rfl
  · rw [if_neg h, List.filter_cons_of_neg h]
    rfl
theorem fitL_len (a b : Int) (k : Nat) : (fitL a b k).length ≤ k := by
  unfold fitL
  refine Nat.le_trans (List.length_filter_le _ _) ?_
  rw [List.length_map, List.length_range]
  exact Nat.le_refl _
theorem fitL_mem {a b : Int} {k : Nat} {c : Int} : c ∈ fitL a b k ↔ 0 ≤ c ∧ c < k ∧ fitsB a b c = true := by
  unfold fitL
  rw [List.mem_filter, List.mem_map]
  constructor
  · rintro ⟨⟨i, hi, rfl⟩, h⟩
    have := List.mem_range.mp hi
    exact ⟨by omega, by omega, h⟩
  · rintro ⟨h0, h1, h2⟩
    exact ⟨⟨c.toNat, List.mem_range.mpr (by omega), by omega⟩, h2⟩
def thirdL (a b h : Int) : List Int := fitL a b (h + 1).toNat ++ (if (if a - b < 0 then -(a - b) else a - b) > h then [h] else [])
theorem thirdL_ne {a b h : Int} (ha : 0 ≤ a) (hb : 0 ≤ b) (hh : 0 ≤ h) : 0 < (thirdL a b h).length := by
  unfold thirdL
  by_cases z : (if a - b < 0 then -(a - b) else a - b) > h
  · rw [if_pos z, List.length_append]
    show 0 < _ + 1
    omega
  · rw [if_neg z, List.append_nil]
    refine List.length_pos_of_mem (a := if a - b < 0 then -(a - b) else a - b) (fitL_mem.mpr ⟨?_, ?_, ?_⟩)
    · split <;> omega
    · split at z <;> split <;> omega
    · unfold fitsB
      have e : ∀ c : Int, (c = a - b ∨ c = b - a) → 0 ≤ c → (decide ((a + b + c) % 2 = 0) && (decide (c ≤ a + b) && (decide (a ≤ b + c) && decide (b ≤ a + c)))) = true := fun c hc h0 => by
        rw [decide_eq_true (by omega), decide_eq_true (by omega), decide_eq_true (by omega), decide_eq_true (by omega)]
        rfl
      split
      · exact e _ (by omega) (by omega)
      · exact e _ (by omega) (by omega)
def spThird : Sp := fun vs H Q _ => ∃ (p c : Addr) (ms : List Int) (n a b h : Int), vs = [.ref p, .int a, .int b, .int h] ∧ PenAt H p c ms n ∧ 0 ≤ n ∧ n ≤ 900000 ∧ 0 ≤ a ∧ 0 ≤ b ∧ 0 ≤ h ∧ h ≤ 1000 ∧
  ∀ (d n' : Int) H', d ∈ thirdL a b h → n ≤ n' → n' ≤ n + 1 → PenAt H' p c ms n' → SameBut p H H' → Q (.int d) H'
abbrev nThird : List Str := ["_law_pen_here", "_law_a", "_law_b", "_law_high", "_law_some", "_law_c"]
theorem scThird : FnScope nThird ["_law_pen_here", "_law_a", "_law_b", "_law_high"] (defScope sThird) := ⟨rfl, rfl, rfl, by decide +kernel, rfl, by decide +kernel, by decide +kernel⟩
theorem ok_third (F : FnP K "_law_third" sThird f fd) (GD : FnOk P w K mg base CX0 1 fD fdD ["_law_pen_here", "_law_many"] spDraw) (bD : L2.Binds K fdD ["_law_pen_here", "_law_many"] []) (kD : PySem.W.keepIn K (.ref fD) = true) (gD : mg "_law_draw" = some (.ref fD))
    (GF : FnOk P w K mg base CX0 1 fF fdF ["_law_a", "_law_b", "_law_c"] spFits) (bF : L2.Binds K fdF ["_law_a", "_law_b", "_law_c"] []) (kF : PySem.W.keepIn K (.ref fF) = true) (gF : mg "_law_fits" = some (.ref fF))
    (gr : mg "range" = none) (gi : mg "int" = none) (ga : mg "abs" = none) (gl : mg "len" = none) :
    FnOk P w K mg base CX0 2 f fd ["_law_pen_here", "_law_a", "_law_b", "_law_high"] spThird := by
  refine F.ok scThird (fun vs H Q E h => ?_) (fun cdv A outer s H vs Q E hr h => ?_)
  · obtain ⟨p, c, ms, n, a, b, h, rfl, _⟩ := h
    rfl
  · obtain ⟨p, c, ms, n, a, b, h, rfl, hp, n0, n1, a0, b0, h0, h1, q⟩ := h
    refine ⟨_, PSs.nox (pss_cons (ps_set (i := 4) scThird.nd rfl (.inl rfl) (pe_op op_cat
        (pe_lc (own := [("_law_c", 5)]) (g := gName 5) (tt := tB (tCall spFits [] E0 (tCons (tVar 1) (tCons (tVar 2) (tCons (tVar 5) tNil))))) (te := tVar 5) rfl scThird.nd (pi_range1 rfl gr (pa_cons (pe_op op_add (pv 3) pe_int) pa_nil))
          (blkOk_by (N := nThird) (sc := defScope sThird) (by decide +kernel)) (fun _ _ _ _ _ => pg_name (i := 5) scThird.nd rfl (.inl rfl)) (fun _ _ _ _ _ => pts_one (pt_val (pe_call GF hr (by rfl) gF kF bF .nil pass0 (pa_cons (pv 1) (pa_cons (pv 2) (pa_cons (pv 5) pa_nil)))))) (fun _ _ _ _ _ => pv 5))
        (pe_op op_rep (pe_lst (pa_cons (pv 3) pa_nil)) (pe_callTy call_int1 (by rfl) gi (by decide +kernel) (pa_cons (pe_cmpR op_gt (pe_callB call_abs (by rfl) ga (by decide +kernel) (pa_cons (pe_op op_sub (pv 1) (pv 2)) pa_nil)) (pv 3) (nomark _)) pa_nil)))))
      (pss_one (ps_ret (pe_ix ix_list (pv 4) (pe_call GD hr (by rfl) gD kD bD .nil pass0 (pa_cons (pv 0) (pa_cons (pe_callB call_len_seq (by rfl) gl PySem.boot_len (pa_cons (pv 4) pa_nil)) pa_nil))) (fun _ _ => rfl))))), ?_⟩
    refine ⟨_, rfl, h, 1, rfl, rfl, h + 1, rfl, by omega, by omega, fun D hD => lc_range (lo := 0) (n := (h + 1).toNat) (fun i H' => Same H H' ∧ H' D = some (.lst ((fitL a b i).map V.int))) ⟨same_upd hD, upd_same⟩ (fun i H' hi hP => ?_) (fun H' hP => ?_)⟩
    · obtain ⟨sm, hd⟩ := hP
      refine ⟨rfl, ?_⟩
      refine ⟨_, rfl, _, rfl, _, rfl, a, b, _, rfl, _, rfl, ?_⟩
      refine iteB (fun z => ?_) fun z => ?_
      · refine ⟨_, rfl, _, hd, ?_, ?_, ?_⟩
        · have := fitL_len a b i
          rw [List.length_map, sizeLine_eq]
          omega
        · intro b' o e
          rw [upd_ne (ne_of_none e hD)]
          exact sm b' o e
        · rw [upd_same, fitL_succ, if_pos z, List.map_append]
          rfl
      · refine ⟨sm, ?_⟩
        rw [hd, fitL_succ, if_neg (by rw [z]; exact Bool.false_ne_true), List.append_nil]
    · obtain ⟨sm, hd⟩ := hP
      refine ⟨_, rfl, by show 1 ≤ sizeLine; decide, fun l hl => ?_⟩
      have s1 := same_upd (o := .lst [.int h]) hl
      obtain ⟨gap, eg⟩ : ∃ g : Int, (if a - b < 0 then -(a - b) else a - b) = g := ⟨_, rfl⟩
      refine ⟨_, rfl, _, rfl, a, b, rfl, rfl, a - b, rfl, _, rfl, _, h, rfl, rfl, .inr ⟨_, rfl, ?_⟩⟩
      rw [eg]
      obtain ⟨k, ek⟩ : ∃ k : Int, (if decide (gap > h) = true then (1 : Int) else 0) = k := ⟨_, rfl⟩
      rw [ek]
      have k01 : k = 0 ∨ k = 1 := by
        rw [← ek]
        split <;> omega
      refine ⟨l, k, _, rfl, rfl, upd_same, by omega, by omega, ?_, fun l2 hl2 => ?_⟩
      · rw [sizeLine_eq]
        show 1 * k.toNat ≤ _
        omega
      obtain ⟨tail, et⟩ : ∃ t : List Int, (if gap > h then [h] else []) = t := ⟨_, rfl⟩
      have er : (List.replicate k.toNat ([V.int h] : List V)).flatten = tail.map V.int := by
        rw [← ek, ← et]
        by_cases z : gap > h
        · rw [if_pos (decide_eq_true z), if_pos z]
          rfl
        · rw [if_neg (by rw [decide_eq_false z]; exact Bool.false_ne_true), if_neg z]
          rfl
      have tl : tail.length ≤ 1 := by
        rw [← et]
        split <;> simp
      have s2 := same_upd (o := .lst ((List.replicate k.toNat ([V.int h] : List V)).flatten)) hl2
      refine ⟨D, l2, _, _, rfl, rfl, s2 _ _ (s1 _ _ hd), upd_same, ?_, fun l3 hl3 => ?_⟩
      · have := fitL_len a b (h + 1).toNat
        rw [er, List.length_map, List.length_map, sizeLine_eq]
        omega
      have e3 : ((fitL a b (h + 1).toNat).map V.int) ++ (List.replicate k.toNat ([V.int h] : List V)).flatten = (thirdL a b h).map V.int := by
        rw [er, ← List.map_append, ← et, ← eg]
        rfl
      rw [e3]
      have s3 := same_upd (o := .lst ((thirdL a b h).map V.int)) hl3
      have sA : Same H _ := (sm.trans (s1.trans s2)).trans s3
      have p3 := hp.same sA
      have tn := thirdL_ne a0 b0 h0
      have tlen : (thirdL a b h).length ≤ 1002 := by
        have := fitL_len a b (h + 1).toNat
        unfold thirdL
        rw [List.length_append, eg, et]
        omega
      refine ⟨_, rfl, _, rfl, _, rfl, l3, _, rfl, .inl (SqL.of upd_same), p, c, ms, n, _, rfl, p3, n0, by omega, ?_, ?_, fun d n' H5 d0 d1 e0 e1 p5 s5 => ?_⟩
      · rw [List.length_map]
        omega
      · rw [List.length_map]
        exact Int.lt_of_le_of_lt (show ((thirdL a b h).length : Int) ≤ 1002 by omega) (by decide)
      · rw [List.length_map] at d1
        have hL := s5 _ _ (PenAt.ne (hp.same (sm.trans (s1.trans s2))) hl3) upd_same
        refine ⟨l3, _, d, .int ((thirdL a b h)[d.toNat]'(by omega)), rfl, rfl, SqL.of hL, at_of (j := d.toNat) (by omega) (by rw [List.getElem?_map, List.getElem?_eq_getElem (by omega)]; rfl), ?_⟩
        exact q _ n' _ (List.getElem_mem _) e0 e1 p5 (SameBut.trans (Same.but sA) s5)
end
end TC
namespace TC
open PySem PySem.Spec PyProof.Rows L2 TCA TCX
section
variable {P : Program} {w : World} {K : PySem.W.Frag} {mg : Str → Option Value} {base : Heap} {f fD fZ fT : Addr} {fd fdD fdZ fdT : FuncData}
/-! ### _law_odd -/
theorem no_non {K : PySem.W.Frag} {H : Hp} : NotInt K H .non := ⟨_, false, false, .base .non, kit_ty (by decide +kernel), kit_ty (by decide +kernel), rfl⟩
theorem no_bl {K : PySem.W.Frag} {H : Hp} (b : Bool) : NotInt K H (.bl b) := ⟨_, true, true, .base (.bl b), kit_ty (by decide +kernel), kit_ty (by decide +kernel), rfl⟩
theorem no_str {K : PySem.W.Frag} {H : Hp} (z : Str) : NotInt K H (.str z) := ⟨_, false, false, .base (.str z), kit_ty (by decide +kernel), kit_ty (by decide +kernel), rfl⟩
theorem no_tup {K : PySem.W.Frag} {H : Hp} {a : Addr} {xs : List V} (h : H a = some (.tup xs)) : NotInt K H (.ref a) := ⟨_, false, false, .base (.tup h), kit_ty (by decide +kernel), kit_ty (by decide +kernel), rfl⟩
theorem no_lst {K : PySem.W.Frag} {H : Hp} {a : Addr} {xs : List V} (h : H a = some (.lst xs)) : NotInt K H (.ref a) := ⟨_, false, false, .base (.lst h), kit_ty (by decide +kernel), kit_ty (by decide +kernel), rfl⟩
theorem no_dK {K : PySem.W.Frag} {H : Hp} {a : Addr} {xs : List (Key × V)} (h : H a = some (.dK xs)) : NotInt K H (.ref a) := ⟨_, false, false, .base (.dK h), kit_ty (by decide +kernel), kit_ty (by decide +kernel), rfl⟩
def spOddL (K : PySem.W.Frag) : Sp := fun vs H Q _ => ∃ (p c : Addr) (ms : List Int) (n : Int), vs = [.ref p] ∧ PenAt H p c ms n ∧ 0 ≤ n ∧ n ≤ 900000 ∧
  ∀ (v : V) (n' : Int) H', Siz K H' v false → n ≤ n' → n' ≤ n + 1 → PenAt H' p c ms n' → SameBut p H H' → Q v H'
theorem scOddL : FnScope ["_law_pen_here", "_law_some"] ["_law_pen_here"] (defScope sOddL) := ⟨rfl, rfl, rfl, by decide +kernel, rfl, by decide +kernel, by decide +kernel⟩
theorem cases17 {d : Int} (h0 : 0 ≤ d) (h1 : d < 17) : d = 0 ∨ d = 1 ∨ d = 2 ∨ d = 3 ∨ d = 4 ∨ d = 5 ∨ d = 6 ∨ d = 7 ∨ d = 8 ∨ d = 9 ∨ d = 10 ∨ d = 11 ∨ d = 12 ∨ d = 13 ∨ d = 14 ∨ d = 15 ∨ d = 16 := by omega
theorem ok_oddL (F : FnP K "_law_odd" sOddL f fd) (GD : FnOk P w K mg base CX0 1 fD fdD ["_law_pen_here", "_law_many"] spDraw) (bD : L2.Binds K fdD ["_law_pen_here", "_law_many"] []) (kD : PySem.W.keepIn K (.ref fD) = true) (gD : mg "_law_draw" = some (.ref fD)) :
    FnOk P w K mg base CX0 2 f fd ["_law_pen_here"] (spOddL K) := by
  refine F.ok scOddL (fun vs H Q E h => ?_) (fun cdv A outer s H vs Q E hr h => ?_)
  · obtain ⟨p, c, ms, n, rfl, _⟩ := h
    rfl
  · obtain ⟨p, c, ms, n, rfl, hp, n0, n1, q⟩ := h
    refine ⟨_, PSs.nox (pss_cons (ps_set (i := 1) scOddL.nd rfl (.inl rfl) (pe_lst (pa_cons pe_non (pa_cons pe_bl (pa_cons pe_bl (pa_cons (pe_un un_neg pe_int) (pa_cons pe_int (pa_cons (pe_op op_pow pe_int pe_int) (pa_cons (pe_un un_neg pe_int) (pa_cons pe_str (pa_cons pe_str
      (pa_cons (pe_tup pa_nil) (pa_cons (pe_tup (pa_cons pe_int pa_nil)) (pa_cons (pe_lst (pa_cons pe_int pa_nil)) (pa_cons pe_dnewK (pa_cons (pe_tup (pa_cons (pe_un un_neg pe_int) (pa_cons pe_int pa_nil))) (pa_cons pe_str (pa_cons (pe_lst (pa_cons (pe_lst pa_nil) pa_nil)) (pa_cons (pe_tup (pa_cons pe_non (pa_cons pe_non pa_nil))) pa_nil)))))))))))))))))))
      (pss_one (ps_ret (pe_ix ix_list (pv 1) (pe_call GD hr (by rfl) gD kD bD .nil pass0 (pa_cons (pv 0) (pa_cons pe_int pa_nil))) (fun _ _ => rfl))))), ?_⟩
    refine ⟨1, rfl, 10, 30, rfl, rfl, ⟨by decide, by decide, by decide⟩, 2, rfl, by show 0 ≤ sizeLine; decide, fun t1 h1 => ?_⟩
    refine ⟨by show 1 ≤ sizeLine; decide, fun t2 h2 => ?_⟩
    refine ⟨by show 1 ≤ sizeLine; decide, fun t3 h3 => ?_⟩
    intro t4 h4
    refine ⟨1, rfl, by show 2 ≤ sizeLine; decide, fun t5 h5 => ?_⟩
    refine ⟨by show 0 ≤ sizeLine; decide, fun t6 h6 => ?_⟩
    refine ⟨by show 1 ≤ sizeLine; decide, fun t7 h7 => ?_⟩
    refine ⟨by show 2 ≤ sizeLine; decide, fun t8 h8 => ?_⟩
    refine ⟨by show 17 ≤ sizeLine; decide, fun t9 h9 => ?_⟩
    have s1 := same_upd (o := .tup []) h1
    have s2 := same_upd (o := .tup [.int 2]) h2
    have s3 := same_upd (o := .lst [.int 2]) h3
    have s4 := same_upd (o := .dK []) h4
    have s5 := same_upd (o := .tup [.int (-1), .int 0]) h5
    have s6 := same_upd (o := .lst []) h6
    have s7 := same_upd (o := .lst [.ref t6]) h7
    have s8 := same_upd (o := .tup [.non, .non]) h8
    have s9 := same_upd (o := .lst [.non, .bl true, .bl false, .int (-1), .int 41, .int (10 ^ 30), .int (-2), .str "2", .str "", .ref t1, .ref t2, .ref t3, .ref t4, .ref t5, .str "a", .ref t7, .ref t8]) h9
    have e9 := s9
    have e8 := s8.trans e9
    have e7 := s7.trans e8
    have e6 := s6.trans e7
    have e5 := s5.trans e6
    have e4 := s4.trans e5
    have e3 := s3.trans e4
    have e2 := s2.trans e3
    have e1 := s1.trans e2
    refine ⟨_, rfl, _, rfl, p, c, ms, n, 17, rfl, hp.same e1, n0, by omega, by decide, by decide, fun d n' H' d0 d1 a0 a1 p' sb => ?_⟩
    have sall : SameBut p H H' := SameBut.trans (Same.but e1) sb
    have hne : ∀ {G : Hp} {t : Addr}, Same H G → G t = none → t ≠ p := fun sg hg => PenAt.ne (hp.same sg) hg
    have u1 := sb t1 _ (hne (fun _ _ z => z) h1) (e2 _ _ upd_same)
    have u2 := sb t2 _ (hne s1 h2) (e3 _ _ upd_same)
    have u3 := sb t3 _ (hne (s1.trans s2) h3) (e4 _ _ upd_same)
    have u4 := sb t4 _ (hne ((s1.trans s2).trans s3) h4) (e5 _ _ upd_same)
    have u5 := sb t5 _ (hne (((s1.trans s2).trans s3).trans s4) h5) (e6 _ _ upd_same)
    have u7 := sb t7 _ (hne (((((s1.trans s2).trans s3).trans s4).trans s5).trans s6) h7) (e8 _ _ upd_same)
    have u8 := sb t8 _ (hne ((((((s1.trans s2).trans s3).trans s4).trans s5).trans s6).trans s7) h8) (e9 _ _ upd_same)
    have u9 := sb t9 _ (hne (((((((s1.trans s2).trans s3).trans s4).trans s5).trans s6).trans s7).trans s8) h9) upd_same
    have dn : ∀ v, NotInt K H' v → Siz K H' v false := fun v z => .inr ⟨rfl, z⟩
    have fin : ∀ v : V, Siz K H' v false → Q v H' := fun v z => q v n' H' z a0 a1 p' sall
    rcases cases17 d0 d1 with rfl | rfl | rfl | rfl | rfl | rfl | rfl | rfl | rfl | rfl | rfl | rfl | rfl | rfl | rfl | rfl | rfl
    · exact ⟨t9, _, 0, _, rfl, rfl, SqL.of u9, atI_nat (j := 0) rfl, fin _ (dn _ no_non)⟩
    · exact ⟨t9, _, 1, _, rfl, rfl, SqL.of u9, atI_nat (j := 1) rfl, fin _ (dn _ (no_bl _))⟩
    · exact ⟨t9, _, 2, _, rfl, rfl, SqL.of u9, atI_nat (j := 2) rfl, fin _ (dn _ (no_bl _))⟩
    · exact ⟨t9, _, 3, _, rfl, rfl, SqL.of u9, atI_nat (j := 3) rfl, fin _ (.inl ⟨-1, rfl, rfl⟩)⟩
    · exact ⟨t9, _, 4, _, rfl, rfl, SqL.of u9, atI_nat (j := 4) rfl, fin _ (.inl ⟨41, rfl, rfl⟩)⟩
    · exact ⟨t9, _, 5, _, rfl, rfl, SqL.of u9, atI_nat (j := 5) rfl, fin _ (.inl ⟨10 ^ 30, rfl, by decide⟩)⟩
    · exact ⟨t9, _, 6, _, rfl, rfl, SqL.of u9, atI_nat (j := 6) rfl, fin _ (.inl ⟨-2, rfl, rfl⟩)⟩
    · exact ⟨t9, _, 7, _, rfl, rfl, SqL.of u9, atI_nat (j := 7) rfl, fin _ (dn _ (no_str _))⟩
    · exact ⟨t9, _, 8, _, rfl, rfl, SqL.of u9, atI_nat (j := 8) rfl, fin _ (dn _ (no_str _))⟩
    · exact ⟨t9, _, 9, _, rfl, rfl, SqL.of u9, atI_nat (j := 9) rfl, fin _ (dn _ (no_tup u1))⟩
    · exact ⟨t9, _, 10, _, rfl, rfl, SqL.of u9, atI_nat (j := 10) rfl, fin _ (dn _ (no_tup u2))⟩
    · exact ⟨t9, _, 11, _, rfl, rfl, SqL.of u9, atI_nat (j := 11) rfl, fin _ (dn _ (no_lst u3))⟩
    · exact ⟨t9, _, 12, _, rfl, rfl, SqL.of u9, atI_nat (j := 12) rfl, fin _ (dn _ (no_dK u4))⟩
    · exact ⟨t9, _, 13, _, rfl, rfl, SqL.of u9, atI_nat (j := 13) rfl, fin _ (dn _ (no_tup u5))⟩
    · exact ⟨t9, _, 14, _, rfl, rfl, SqL.of u9, atI_nat (j := 14) rfl, fin _ (dn _ (no_str _))⟩
    · exact ⟨t9, _, 15, _, rfl, rfl, SqL.of u9, atI_nat (j := 15) rfl, fin _ (dn _ (no_lst u7))⟩
    · exact ⟨t9, _, 16, _, rfl, rfl, SqL.of u9, atI_nat (j := 16) rfl, fin _ (dn _ (no_tup u8))⟩
end
end TC
namespace TC
open PySem PySem.Spec PyProof.Rows L2 TCA TCX
def iv (ns : List Int) : HO := .tup (ns.map V.int)
/-- the four triangles of six sizes -/
def QuadT (H : Hp) (r : Addr) (a b c d e f : Int) : Prop := ∃ t1 t2 t3 t4, H r = some (.tup [.ref t1, .ref t2, .ref t3, .ref t4]) ∧ H t1 = some (iv [a, b, c]) ∧ H t2 = some (iv [a, e, f]) ∧ H t3 = some (iv [d, b, f]) ∧ H t4 = some (iv [d, e, c])
def Jn (a b c d e f : Int) : Bool := canJ a b c && (canJ a e f && (canJ d b f && canJ d e c))
section
variable {P : Program} {w : World} {K : PySem.W.Frag} {mg : Str → Option Value} {base : Heap} {f : Addr} {fd : FuncData}
/-! ### triangles_of -/
def spTri : Sp := fun vs H Q _ => ∃ (t : Addr) (a b c d e g : Int), vs = [.ref t] ∧ H t = some (iv [a, b, c, d, e, g]) ∧ ∀ r H', Same H H' → H r = none → QuadT H' r a b c d e g → Q (.ref r) H'
theorem scTri : FnScope ["sizes", "a", "b", "c", "d", "e", "f"] ["sizes"] (defScope sTri) := ⟨rfl, rfl, rfl, by decide +kernel, rfl, by decide +kernel, by decide +kernel⟩
theorem ok_tri (F : FnP K "triangles_of" sTri f fd) : FnOk P w K mg base CX0 1 f fd ["sizes"] spTri := by
  refine F.ok scTri (fun vs H Q E h => ?_) (fun cdv A outer s H vs Q E hr h => ?_)
  · obtain ⟨t, _, _, _, _, _, _, rfl, _⟩ := h
    rfl
  · obtain ⟨t, a, b, c, d, e, g, rfl, ht, q⟩ := h
    refine ⟨_, PSs.nox (pss_cons (ps_asg (pv 0) (pg_tup rfl (pgs_cons (pg_name (i := 1) scTri.nd rfl (.inl rfl)) (pgs_cons (pg_name (i := 2) scTri.nd rfl (.inl rfl)) (pgs_cons (pg_name (i := 3) scTri.nd rfl (.inl rfl)) (pgs_cons (pg_name (i := 4) scTri.nd rfl (.inl rfl)) (pgs_cons (pg_name (i := 5) scTri.nd rfl (.inl rfl)) (pgs_cons (pg_name (i := 6) scTri.nd rfl (.inl rfl)) pgs_nil))))))))
      (pss_one (ps_ret (pe_tup (pa_cons (pe_tup (pa_cons (pv 1) (pa_cons (pv 2) (pa_cons (pv 3) pa_nil)))) (pa_cons (pe_tup (pa_cons (pv 1) (pa_cons (pv 5) (pa_cons (pv 6) pa_nil)))) (pa_cons (pe_tup (pa_cons (pv 4) (pa_cons (pv 2) (pa_cons (pv 6) pa_nil)))) (pa_cons (pe_tup (pa_cons (pv 4) (pa_cons (pv 5) (pa_cons (pv 3) pa_nil)))) pa_nil)))))))), ?_⟩
    refine ⟨_, rfl, t, _, rfl, SqT.of ht, rfl, _, _, rfl, _, _, rfl, _, _, rfl, _, _, rfl, _, _, rfl, _, _, rfl, rfl, ?_⟩
    refine ⟨_, rfl, _, rfl, _, rfl, by show 3 ≤ sizeLine; decide, fun t1 h1 => ?_⟩
    refine ⟨_, rfl, _, rfl, _, rfl, by show 3 ≤ sizeLine; decide, fun t2 h2 => ?_⟩
    refine ⟨_, rfl, _, rfl, _, rfl, by show 3 ≤ sizeLine; decide, fun t3 h3 => ?_⟩
    refine ⟨_, rfl, _, rfl, _, rfl, by show 3 ≤ sizeLine; decide, fun t4 h4 => ?_⟩
    refine ⟨by show 4 ≤ sizeLine; decide, fun r hr' => ?_⟩
    have s1 := same_upd (o := iv [a, b, c]) h1
    have s2 := same_upd (o := iv [a, e, g]) h2
    have s3 := same_upd (o := iv [d, b, g]) h3
    have s4 := same_upd (o := iv [d, e, c]) h4
    have s5 := same_upd (o := .tup [.ref t1, .ref t2, .ref t3, .ref t4]) hr'
    have s45 := s4.trans s5
    have s35 := s3.trans s45
    have s25 := s2.trans s35
    have s14 := ((s1.trans s2).trans s3).trans s4
    exact q r _ (s1.trans s25) (s14.free hr') ⟨t1, t2, t3, t4, upd_same, s25 _ _ upd_same, s35 _ _ upd_same, s45 _ _ upd_same, s5 _ _ upd_same⟩
/-! ### first_not_joined -/
def spFirst : Sp := fun vs H Q _ => ∃ (r : Addr) (a b c d e g : Int), vs = [.ref r] ∧ QuadT H r a b c d e g ∧ (Jn a b c d e g = true → ∀ H', Same H H' → Q .non H') ∧ (Jn a b c d e g = false → ∀ (k : Int) H', Same H H' → Q (.int k) H')
theorem scFirst : FnScope ["triples", "at", "one", "other", "third"] ["triples"] (defScope sFirst) := ⟨rfl, rfl, rfl, by decide +kernel, rfl, by decide +kernel, by decide +kernel⟩
theorem ok_first {fC : Addr} {fdC : FuncData} (F : FnP K "first_not_joined" sFirst f fd) (GC : FnOk P w K mg base CX0 2 fC fdC ["one", "other", "third"] spCan) (bC : L2.Binds K fdC ["one", "other", "third"] []) (kC : PySem.W.keepIn K (.ref fC) = true) (gC : mg "can_join" = some (.ref fC)) (ge : mg "enumerate" = none) :
    FnOk P w K mg base CX0 3 f fd ["triples"] spFirst := by
  refine F.ok scFirst (fun vs H Q E h => ?_) (fun cdv A outer s H vs Q E hr h => ?_)
  · obtain ⟨t, _, _, _, _, _, _, rfl, _⟩ := h
    rfl
  · obtain ⟨r, a, b, c, d, e, g, rfl, ⟨t1, t2, t3, t4, hr0, h1, h2, h3, h4⟩, q1, q2⟩ := h
    refine ⟨_, PSs.nox (pss_cons (ps_for PassesOwn.never rfl (pi_enumT (by rfl) ge (pa_cons (pv 0) pa_nil)) (pg_tup rfl (pgs_cons (pg_name (i := 1) scFirst.nd rfl (.inl rfl)) (pgs_cons (pg_tup rfl (pgs_cons (pg_name (i := 2) scFirst.nd rfl (.inl rfl)) (pgs_cons (pg_name (i := 3) scFirst.nd rfl (.inl rfl)) (pgs_cons (pg_name (i := 4) scFirst.nd rfl (.inl rfl)) pgs_nil)))) pgs_nil)))
        (pss_one (ps_if (pt_not (pt_val (pe_call GC hr (by rfl) gC kC bC .nil pass0 (pa_cons (pv 2) (pa_cons (pv 3) (pa_cons (pv 4) pa_nil)))))) (pss_one (ps_ret (pv 1))) pss_nil)))
      (pss_one (ps_ret pe_non))), ?_⟩
    -- the four as a list
    let L : List (Addr × Int × Int × Int) := [(t1, a, b, c), (t2, a, e, g), (t3, d, b, g), (t4, d, e, c)]
    have hL : ∀ x ∈ L, H x.1 = some (iv [x.2.1, x.2.2.1, x.2.2.2]) := fun x hx => by
      simp only [L, List.mem_cons, List.not_mem_nil, or_false] at hx
      rcases hx with rfl | rfl | rfl | rfl
      · exact h1
      · exact h2
      · exact h3
      · exact h4
    have hJ : Jn a b c d e g = L.all fun x => canJ x.2.1 x.2.2.1 x.2.2.2 := by
      simp [L, Jn, Bool.and_assoc]
    refine ⟨_, rfl, r, [.ref t1, .ref t2, .ref t3, .ref t4], rfl, SqT.of hr0, ?_⟩
    refine ⟨fun i m σ H' => i + m = 4 ∧ Same H H' ∧ (L.take i).all (fun x => canJ x.2.1 x.2.2.1 x.2.2.2) = true ∧ ∃ (v1 v2 v3 v4 : Option V), σ = [some (.ref r), v1, v2, v3, v4],
      ⟨4, rfl, Same.refl _, rfl, none, none, none, none, rfl⟩, fun i m σ H' hW => ?_⟩
    obtain ⟨im, sm, hall, v1, v2, v3, v4, rfl⟩ := hW
    by_cases hi : i = 4
    · subst hi
      refine .inl ⟨⟨Nat.le_refl _, SqT.of (sm _ _ hr0)⟩, ?_⟩
      exact q1 (by rw [hJ]; exact hall) _ sm
    · have hi4 : i < 4 := by omega
      refine .inr ⟨⟨hi4, SqT.of (sm _ _ hr0)⟩, fun σ' H'' => Same H H'' ∧ (L.take (i + 1)).all (fun x => canJ x.2.1 x.2.2.1 x.2.2.2) = true ∧ ∃ (v1 v2 v3 v4 : Option V), σ' = [some (.ref r), v1, v2, v3, v4], fun σ' H'' hN => ?_, fun x H'' hy => ?_⟩
      · obtain ⟨s2, ha, w1, w2, w3, w4, rfl⟩ := hN
        exact ⟨m - 1, by omega, by omega, s2, ha, w1, w2, w3, w4, rfl⟩
      · obtain ⟨T, x1, rfl, nT, rfl, hx1⟩ := hy
        obtain ⟨y, hy⟩ : ∃ y, L[i]? = some y := ⟨_, List.getElem?_eq_getElem (show i < L.length from hi4)⟩
        have ex1 : x1 = V.ref y.1 := by
          have e1 : ([.ref t1, .ref t2, .ref t3, .ref t4] : List V) = L.map fun x => V.ref x.1 := rfl
          rw [e1, List.getElem?_map, hy] at hx1
          exact (Option.some.inj hx1).symm
        subst ex1
        have smT : Same H (upd H' T (.tup [.int ((i : Nat) : Int), .ref y.1])) := sm.trans (same_upd nT)
        refine ⟨T, _, rfl, SqT.of upd_same, rfl, _, _, rfl, _, _, rfl, ?_⟩
        refine ⟨y.1, _, rfl, SqT.of (smT _ _ (hL y (List.mem_of_getElem? hy))), rfl, _, _, rfl, _, _, rfl, _, _, rfl, rfl, rfl, ?_⟩
        refine ⟨_, rfl, _, rfl, _, rfl, y.2.1, y.2.2.1, y.2.2.2, rfl, _, rfl, ?_⟩
        cases hc : canJ y.2.1 y.2.2.1 y.2.2.2 with
        | true =>
          refine iteF ⟨smT, ?_, _, _, _, _, rfl⟩
          rw [List.take_add_one, hy, List.all_append, hall]
          simp [hc]
        | false =>
          refine iteT ⟨_, rfl, q2 ?_ _ _ smT⟩
          rw [hJ]
          exact List.all_eq_false.mpr ⟨y, List.mem_of_getElem? hy, by rw [hc]; exact Bool.false_ne_true⟩
end
end TC
namespace TC
open PySem PySem.Spec PyProof.Rows L2 TCA TCX
def quad (a b c d e f : Int) : List (List Int) := [[a, b, c], [a, e, f], [d, b, f], [d, e, c]]
def lows (a b c d e f : Int) : List Int := (quad a b c d e f).map fun l => l.sum / 2
def opps (a b c d e f : Int) : List Int := [(a + b + d + e) / 2, (b + c + e + f) / 2, (c + a + f + d) / 2]
def Srt (L M : List Int) : Prop := L.Perm M ∧ L.Pairwise (· ≤ ·)
theorem Srt.eq {L L' M : List Int} (h : Srt L M) (h' : Srt L' M) : L = L' := List.Perm.eq_of_pairwise (fun a b _ _ h1 h2 => Int.le_antisymm h1 h2) h.2 h'.2 (h.1.trans h'.1.symm)
/-- the pair of two rising tuples -/
def FormT (H : Hp) (r : Addr) (L1 L2 : List Int) : Prop := ∃ r1 r2, H r = some (.tup [.ref r1, .ref r2]) ∧ H r1 = some (iv L1) ∧ H r2 = some (iv L2)
theorem FormT.same {H H' : Hp} {r : Addr} {L1 L2 : List Int} (h : FormT H r L1 L2) (s : Same H H') : FormT H' r L1 L2 := by
  obtain ⟨r1, r2, a, b, c⟩ := h
  exact ⟨r1, r2, s _ _ a, s _ _ b, s _ _ c⟩
section
variable {P : Program} {w : World} {K : PySem.W.Frag} {mg : Str → Option Value} {base : Heap} {f : Addr} {fd : FuncData}
theorem same_at {H H1 : Hp} {d : Addr} {o : HO} (s : Same H H1) (h : H d = none) : Same H (upd H1 d o) := fun b x e => by
  rw [upd_ne (ne_of_none e h)]
  exact s b x e
/-! ### form_of -/
def spForm : Sp := fun vs H Q _ => ∃ (t : Addr) (a b c d e g : Int), vs = [.ref t] ∧ H t = some (iv [a, b, c, d, e, g]) ∧ ∀ r L1 L2 H', Same H H' → H r = none → Srt L1 (lows a b c d e g) → Srt L2 (opps a b c d e g) → FormT H' r L1 L2 → Q (.ref r) H'
abbrev nForm : List Str := ["sizes", "a", "b", "c", "d", "e", "f", "triangles", "opposites", "triangle"]
theorem scForm : FnScope nForm ["sizes"] (defScope sForm) := ⟨rfl, rfl, rfl, by decide +kernel, rfl, by decide +kernel, by decide +kernel⟩
theorem ok_form {fT : Addr} {fdT : FuncData} (F : FnP K "form_of" sForm f fd) (GT : FnOk P w K mg base CX0 1 fT fdT ["sizes"] spTri) (bT : L2.Binds K fdT ["sizes"] []) (kT : PySem.W.keepIn K (.ref fT) = true) (gT : mg "triangles_of" = some (.ref fT)) (gs : mg "sum" = none) (go : mg "sorted" = none) (gt : mg "tuple" = none) :
    FnOk P w K mg base CX0 2 f fd ["sizes"] spForm := by
  refine F.ok scForm (fun vs H Q E h => ?_) (fun cdv A outer s H vs Q E hr h => ?_)
  · obtain ⟨t, _, _, _, _, _, _, rfl, _⟩ := h
    rfl
  · obtain ⟨t, a, b, c, d, e, g, rfl, ht, q⟩ := h
    refine ⟨_, PSs.nox (pss_cons (ps_asg (pv 0) (pg_tup rfl (pgs_cons (pg_name (i := 1) scForm.nd rfl (.inl rfl)) (pgs_cons (pg_name (i := 2) scForm.nd rfl (.inl rfl)) (pgs_cons (pg_name (i := 3) scForm.nd rfl (.inl rfl)) (pgs_cons (pg_name (i := 4) scForm.nd rfl (.inl rfl)) (pgs_cons (pg_name (i := 5) scForm.nd rfl (.inl rfl)) (pgs_cons (pg_name (i := 6) scForm.nd rfl (.inl rfl)) pgs_nil))))))))
      (pss_cons (ps_setLc (i := 7) (own := [("triangle", 9)]) (g := gName 9) (tt := tYes) (te := tOp (rI CDiv fun i j => .int (i / j)) (tCB (rSumT K) (tCons (tVar 9) tNil)) (tC (.int 2))) (by rfl) scForm.nd rfl rfl (sw_true rfl rfl rfl (by decide +kernel)) (pi_tup (pe_call GT hr (by rfl) gT kT bT .nil pass0 (pa_cons (pv 0) pa_nil)))
          (blkOk_by (N := nForm) (sc := defScope sForm) (by decide +kernel)) (fun _ _ _ _ _ => pg_name (i := 9) scForm.nd rfl (.inl rfl)) (fun _ _ _ _ _ => pts_nil) (fun _ _ _ _ _ => pe_op op_fdiv (pe_callB (cr_sumT rfl) (by rfl) gs (by decide +kernel) (pa_cons (pv 9) pa_nil)) pe_int))
      (pss_cons (ps_set (i := 8) scForm.nd rfl (.inl rfl) (pe_lst (pa_cons (pe_op op_fdiv (pe_op op_add (pe_op op_add (pe_op op_add (pv 1) (pv 2)) (pv 4)) (pv 5)) pe_int) (pa_cons (pe_op op_fdiv (pe_op op_add (pe_op op_add (pe_op op_add (pv 2) (pv 3)) (pv 5)) (pv 6)) pe_int) (pa_cons (pe_op op_fdiv (pe_op op_add (pe_op op_add (pe_op op_add (pv 3) (pv 1)) (pv 6)) (pv 4)) pe_int) pa_nil)))))
      (pss_one (ps_ret (pe_tup (pa_cons (pe_callTy call_tuple_of (by rfl) gt (by decide +kernel) (pa_cons (pe_callB cr_sortedI (by rfl) go (by decide +kernel) (pa_cons (pv 7) pa_nil)) pa_nil)) (pa_cons (pe_callTy call_tuple_of (by rfl) gt (by decide +kernel) (pa_cons (pe_callB cr_sortedI (by rfl) go (by decide +kernel) (pa_cons (pv 8) pa_nil)) pa_nil)) pa_nil)))))))), ?_⟩
    refine ⟨_, rfl, t, _, rfl, SqT.of ht, rfl, _, _, rfl, _, _, rfl, _, _, rfl, _, _, rfl, _, _, rfl, _, _, rfl, rfl, ?_⟩
    refine ⟨_, rfl, t, a, b, c, d, e, g, rfl, ht, fun r H1 s1 hr1 hq => ?_⟩
    obtain ⟨t1, t2, t3, t4, q0, q1, q2, q3, q4⟩ := hq
    have hget : ∀ (i : Nat) (x : V), ([.ref t1, .ref t2, .ref t3, .ref t4] : List V)[i]? = some x → ∃ u l, x = .ref u ∧ H1 u = some (iv l) ∧ (quad a b c d e g)[i]? = some l := fun i x hx => by
      match i, hx with
      | 0, hx => exact ⟨t1, _, (Option.some.inj hx).symm, q1, rfl⟩
      | 1, hx => exact ⟨t2, _, (Option.some.inj hx).symm, q2, rfl⟩
      | 2, hx => exact ⟨t3, _, (Option.some.inj hx).symm, q3, rfl⟩
      | 3, hx => exact ⟨t4, _, (Option.some.inj hx).symm, q4, rfl⟩
      | n + 4, hx => cases hx
    refine ⟨r, rfl, ⟨_, SqT.of q0⟩, fun D hD => lc_tup (xs := [.ref t1, .ref t2, .ref t3, .ref t4]) (fun i H' => Same H1 H' ∧ H' D = some (.lst ((((quad a b c d e g).take i).map fun l => l.sum / 2).map V.int))) ⟨same_upd hD, upd_same⟩ (fun i H' _ hP => SqT.of (hP.1 _ _ q0)) (fun i x H' hx hP => ?_) (fun H' hP => ?_)⟩
    · obtain ⟨sm, hd⟩ := hP
      obtain ⟨u, l, rfl, hu, hl⟩ := hget i x hx
      have il : i < (quad a b c d e g).length := (List.getElem?_eq_some_iff.mp hl).1
      refine ⟨rfl, ?_⟩
      refine ⟨_, rfl, u, l, rfl, SqT.of (sm _ _ hu), _, 2, rfl, rfl, ⟨by decide, by decide⟩, _, hd, ?_, same_at sm hD, ?_⟩
      · rw [List.length_map, List.length_map, List.length_take, sizeLine_eq]
        have : (quad a b c d e g).length = 4 := rfl
        omega
      · rw [upd_same, List.take_add_one, hl, List.map_append, List.map_append]
        rfl
    · obtain ⟨sm, hd⟩ := hP
      rw [show ((quad a b c d e g).take ([.ref t1, .ref t2, .ref t3, .ref t4] : List V).length) = quad a b c d e g from rfl] at hd
      have s2 := s1.trans sm
      refine ⟨_, rfl, _, rfl, a, b, rfl, rfl, _, rfl, _, d, rfl, rfl, _, rfl, _, e, rfl, rfl, _, 2, rfl, rfl, ⟨by decide, by decide⟩, ?_⟩
      refine ⟨_, rfl, _, rfl, b, c, rfl, rfl, _, rfl, _, e, rfl, rfl, _, rfl, _, g, rfl, rfl, _, 2, rfl, rfl, ⟨by decide, by decide⟩, ?_⟩
      refine ⟨_, rfl, _, rfl, c, a, rfl, rfl, _, rfl, _, g, rfl, rfl, _, rfl, _, d, rfl, rfl, _, 2, rfl, rfl, ⟨by decide, by decide⟩, by show 3 ≤ sizeLine; decide, fun o ho => ?_⟩
      have s3 := same_upd (o := .lst ((opps a b c d e g).map V.int)) ho
      refine ⟨_, rfl, D, lows a b c d e g, rfl, SqL.of (s3 _ _ hd), fun L1 p1 pm1 st1 hp1 => ?_⟩
      have s4 := same_upd (o := .lst (L1.map V.int)) hp1
      refine ⟨p1, _, rfl, .inl ⟨SqL.of upd_same, fun r1 hr1' => ?_⟩⟩
      have s5 := same_upd (o := iv L1) hr1'
      refine ⟨_, rfl, o, opps a b c d e g, rfl, SqL.of ((s4.trans s5) _ _ upd_same), fun L2 p2 pm2 st2 hp2 => ?_⟩
      have s6 := same_upd (o := .lst (L2.map V.int)) hp2
      refine ⟨p2, _, rfl, .inl ⟨SqL.of upd_same, fun r2 hr2' => ?_⟩⟩
      have s7 := same_upd (o := iv L2) hr2'
      refine ⟨by show 2 ≤ sizeLine; decide, fun rr hrr => ?_⟩
      have s8 := same_upd (o := .tup [.ref r1, .ref r2]) hrr
      have sAll := ((((s2.trans s3).trans s4).trans s5).trans s6).trans s7
      exact q rr L1 L2 _ (sAll.trans s8) (sAll.free hrr) ⟨pm1, st1⟩ ⟨pm2, st2⟩ ⟨r1, r2, upd_same, ((s6.trans s7).trans s8) _ _ upd_same, s8 _ _ upd_same⟩
end
end TC
namespace TC
open PySem PySem.Spec PyProof.Rows L2 TCA TCX
/-! ### forms as data -/
def dT (L : List Int) : PyData := .tuple (dInts L)
def dForm (L1 L2 : List Int) : PyData := .tuple [dT L1, dT L2]
theorem FormT.dp {K : PySem.W.Frag} {H : Hp} {r : Addr} {L1 L2 : List Int} (h : FormT H r L1 L2) : Dp K H (.ref r) (dForm L1 L2) := by
  obtain ⟨r1, r2, a, b, c⟩ := h
  exact .tup (SqT.of a) (.cons (.tup (SqT.of b) (dpAll_ints L1)) (.cons (.tup (SqT.of c) (dpAll_ints L2)) .nil))
theorem ints_lay : ∀ L : List Int, PyData.canLayAll0 (dInts L) = true ∧ PyData.depthAll (dInts L) ≤ 0
  | [] => ⟨rfl, Nat.le_refl _⟩
  | x :: L => by
    obtain ⟨h1, h2⟩ := ints_lay L
    refine ⟨?_, ?_⟩
    · show (PyData.canLay0 (.int x) && PyData.canLayAll0 (dInts L)) = true
      rw [h1]
      rfl
    · show max (PyData.depth (.int x)) (PyData.depthAll (dInts L)) ≤ 0
      exact Nat.max_le.mpr ⟨Nat.le_refl 0, h2⟩
theorem form_shaped (L1 L2 : List Int) : SeqAt.shaped (dForm L1 L2) = true := by
  obtain ⟨a1, a2⟩ := ints_lay L1
  obtain ⟨b1, b2⟩ := ints_lay L2
  show ((PyData.canLayAll0 (dInts L1) && (PyData.canLayAll0 (dInts L2) && true)) && decide (max (PyData.depthAll (dInts L1) + 1) (max (PyData.depthAll (dInts L2) + 1) 0) + 1 ≤ 64)) = true
  rw [a1, b1, decide_eq_true (by omega)]
  rfl
theorem ints_eqv : ∀ L M : List Int, PyData.eqvAll (dInts L) (dInts M) = decide (L = M)
  | [], [] => rfl
  | [], _ :: _ => rfl
  | _ :: _, [] => rfl
  | x :: L, y :: M => by
    show (PyData.eqv (.int x) (.int y) && PyData.eqvAll (dInts L) (dInts M)) = _
    rw [ints_eqv L M]
    simp only [PyData.eqv]
    by_cases h1 : x = y <;> by_cases h2 : L = M <;> simp [h1, h2]
theorem form_eqv (L1 L2 M1 M2 : List Int) : PyData.eqv (dForm L1 L2) (dForm M1 M2) = (decide (L1 = M1) && decide (L2 = M2)) := by
  show (PyData.eqvAll (dInts L1) (dInts M1) && (PyData.eqvAll (dInts L2) (dInts M2) && true)) = _
  rw [ints_eqv, ints_eqv, Bool.and_true]
section
variable {P : Program} {w : World} {K : PySem.W.Frag} {mg : Str → Option Value} {base : Heap} {f : Addr} {fd : FuncData} {CS CT : Addr}
/-! ### need_sizes of a tuple -/
def spNeedT (K : PySem.W.Frag) (CS : Addr) : Sp := fun vs H Q E => ∃ (a : Addr) (xs : List V) (bs : List Bool), vs = [.ref a] ∧ H a = some (.tup xs) ∧ Paired (Siz K H) xs bs ∧ (bs.all id = true → Q .non H) ∧ (bs.all id = false → E (.ref CS) none H)
theorem ok_needT {fS CS : Addr} {fdS : FuncData} (F : FnP K "need_sizes" sNeed f fd) (GS : FnOk P w K mg base CX0 2 fS fdS ["thing"] (spIsSize K)) (bS : L2.Binds K fdS ["thing"] []) (kS : PySem.W.keepIn K (.ref fS) = true) (gS : mg "is_size" = some (.ref fS)) (T : XTxt K mg "NoSize" CS) :
    FnOk P w K mg base (L2.CX P w) 3 f fd ["things"] (spNeedT K CS) := by
  refine F.ok scNeed (fun vs H Q E h => ?_) (fun cdv A outer s H vs Q E hr h => ?_)
  · obtain ⟨a, xs, bs, rfl, _⟩ := h
    rfl
  · obtain ⟨a, xs, bs, rfl, hS, hp, hq, he⟩ := h
    refine ⟨_, pss_one (ps_for (passes_of rfl) rfl (pi_tup (pv 0)) (pg_name (i := 1) scNeed.nd rfl (.inl rfl))
      (pss_one (ps_if (pt_not (pt_val (pe_call GS hr (by rfl) gS kS bS .nil pass0 (pa_cons (pv 1) pa_nil))))
        (pss_one (ps_raise rfl (takes_of rfl rfl rfl rfl) (pmk_own PySem.F.excBase_ValueError T.e T.g T.k (raises_own T.b T.t) rfl))) pss_nil))), ?_⟩
    refine ⟨_, rfl, a, rfl, ⟨_, SqT.of hS⟩, for_tup (K := K) (a := a) (xs := xs) (fun i σ H' => (∃ y, σ = [some (.ref a), y]) ∧ H' = H ∧ (bs.take i).all id = true) ⟨⟨none, rfl⟩, rfl, rfl⟩ (fun i σ H' _ z => by rw [z.2.1]; exact SqT.of hS) (fun i x σ H' hx z => ?_) (fun σ H' z => ?_)⟩
    · obtain ⟨⟨y, rfl⟩, rfl, hb⟩ := z
      obtain ⟨b, hbi, hs⟩ := paired_at hp i x hx
      refine ⟨_, rfl, x, b, rfl, hs, b, rfl, ?_⟩
      cases b with
      | true => exact iteF ⟨⟨_, rfl⟩, rfl, all_take hb hbi rfl⟩
      | false => exact iteT (he (all_false hbi))
    · obtain ⟨⟨y, rfl⟩, rfl, hb⟩ := z
      rw [paired_len hp, List.take_length] at hb
      exact hq hb
/-! ### forms_of -/
/-- what six values promise: refused by size, by triangle, or told -/
structure Told6 (K : PySem.W.Frag) (H : Hp) (xs : List V) (bs : List Bool) (q : Addr → List Int → List Int → Hp → Prop) (eS eT : Hp → Prop) : Prop where
  pr : Paired (Siz K H) xs bs
  bad : bs.all id = false → ∀ H', Same H H' → eS H'
  no : ∀ a b c d e g : Int, xs = ([a, b, c, d, e, g] : List Int).map V.int → bs.all id = true → Jn a b c d e g = false → ∀ H', Same H H' → eT H'
  yes : ∀ a b c d e g : Int, xs = ([a, b, c, d, e, g] : List Int).map V.int → bs.all id = true → Jn a b c d e g = true → ∀ r L1 L2 H', Same H H' → Srt L1 (lows a b c d e g) → Srt L2 (opps a b c d e g) → FormT H' r L1 L2 → q r L1 L2 H'
theorem Told6.same {H H' : Hp} {xs : List V} {bs : List Bool} {q : Addr → List Int → List Int → Hp → Prop} {eS eT : Hp → Prop} (h : Told6 K H xs bs q eS eT) (s : Same H H') : Told6 K H' xs bs q eS eT := by
  have pr : ∀ {xs : List V} {bs : List Bool}, Paired (Siz K H) xs bs → Paired (Siz K H') xs bs := fun {xs bs} h => by
    induction h with
    | nil => exact .nil
    | cons r _ ih => exact .cons (r.same s) ih
  exact ⟨pr h.pr, fun z G t => h.bad z G (s.trans t), fun a b c d e g x y z G t => h.no a b c d e g x y z G (s.trans t), fun a b c d e g x y z r L1 L2 G t => h.yes a b c d e g x y z r L1 L2 G (s.trans t)⟩
theorem six_ints {H : Hp} {v1 v2 v3 v4 v5 v6 : V} {bs : List Bool} (h : Paired (Siz K H) [v1, v2, v3, v4, v5, v6] bs) (hb : bs.all id = true) : ∃ a b c d e g : Int, ([v1, v2, v3, v4, v5, v6] : List V) = ([a, b, c, d, e, g] : List Int).map V.int := by
  cases h with | cons h1 h => cases h with | cons h2 h => cases h with | cons h3 h => cases h with | cons h4 h => cases h with | cons h5 h => cases h with | cons h6 h => cases h with | nil =>
    simp at hb
    have key : ∀ {v : V} {b : Bool}, Siz K H v b → b = true → ∃ n : Int, v = .int n := fun {v b} hs hb => by
      rcases hs with ⟨n, e, _⟩ | ⟨e, _⟩
      · exact ⟨n, e⟩
      · rw [e] at hb
        cases hb
    obtain ⟨a, rfl⟩ := key h1 hb.1
    obtain ⟨b, rfl⟩ := key h2 hb.2.1
    obtain ⟨c, rfl⟩ := key h3 hb.2.2.1
    obtain ⟨d, rfl⟩ := key h4 hb.2.2.2.1
    obtain ⟨e, rfl⟩ := key h5 hb.2.2.2.2.1
    obtain ⟨g, rfl⟩ := key h6 hb.2.2.2.2.2
    exact ⟨a, b, c, d, e, g, rfl⟩
def spForms (K : PySem.W.Frag) (CS CT : Addr) : Sp := fun vs H Q E => ∃ (v1 v2 v3 v4 v5 v6 : V) (bs : List Bool), vs = [v1, v2, v3, v4, v5, v6] ∧ Told6 K H vs bs (fun r L1 L2 H' => Q (.ref r) H') (fun H' => E (.ref CS) none H') (fun H' => E (.ref CT) none H')
abbrev nForms : List Str := ["a", "b", "c", "d", "e", "f", "sizes"]
theorem scForms : FnScope nForms ["a", "b", "c", "d", "e", "f"] (defScope sForms) := ⟨rfl, rfl, rfl, by decide +kernel, rfl, by decide +kernel, by decide +kernel⟩
theorem ok_forms {fN fT fJ fF : Addr} {fdN fdT fdJ fdF : FuncData} (F : FnP K "forms_of" sForms f fd) (X : XTxt K mg "NoTriple" CT) (GN : FnOk P w K mg base (L2.CX P w) 3 fN fdN ["things"] (spNeedT K CS)) (bN : L2.Binds K fdN ["things"] []) (kN : PySem.W.keepIn K (.ref fN) = true) (gN : mg "need_sizes" = some (.ref fN))
    (GT : FnOk P w K mg base CX0 1 fT fdT ["sizes"] spTri) (bT : L2.Binds K fdT ["sizes"] []) (kT : PySem.W.keepIn K (.ref fT) = true) (gT : mg "triangles_of" = some (.ref fT))
    (GJ : FnOk P w K mg base CX0 3 fJ fdJ ["triples"] spFirst) (bJ : L2.Binds K fdJ ["triples"] []) (kJ : PySem.W.keepIn K (.ref fJ) = true) (gJ : mg "first_not_joined" = some (.ref fJ))
    (GF : FnOk P w K mg base CX0 2 fF fdF ["sizes"] spForm) (bF : L2.Binds K fdF ["sizes"] []) (kF : PySem.W.keepIn K (.ref fF) = true) (gF : mg "form_of" = some (.ref fF)) :
    FnOk P w K mg base (L2.CX P w) 4 f fd ["a", "b", "c", "d", "e", "f"] (spForms K CS CT) := by
  refine F.ok scForms (fun vs H Q E h => ?_) (fun cdv A outer s H vs Q E hr h => ?_)
  · obtain ⟨_, _, _, _, _, _, _, rfl, _⟩ := h
    rfl
  · obtain ⟨v1, v2, v3, v4, v5, v6, bs, rfl, h6⟩ := h
    have hr1 := hr.mono (j := 1) (by decide)
    have hr2 := hr.mono (j := 2) (by decide)
    refine ⟨_, pss_cons (ps_set (i := 6) scForms.nd rfl (.inl rfl) (pe_tup (pa_cons (pv 0) (pa_cons (pv 1) (pa_cons (pv 2) (pa_cons (pv 3) (pa_cons (pv 4) (pa_cons (pv 5) pa_nil))))))))
      (pss_cons (ps_expr (pe_call GN hr (by rfl) gN kN bN .nil (passes_call (takes_of rfl rfl rfl rfl) fun _ _ _ _ z => z) (pa_cons (pv 6) pa_nil)))
      (pss_cons (ps_if (pt_cmpR op_notN (pe_call (lift0 GJ) hr (by rfl) gJ kJ bJ .nil (passes_call (takes_of rfl rfl rfl rfl) fun _ _ _ _ z => z) (pa_cons (pe_call (lift0 GT) hr1 (by rfl) gT kT bT .nil (passes_call (takes_of rfl rfl rfl rfl) fun _ _ _ _ z => z) (pa_cons (pv 6) pa_nil)) pa_nil)) pe_non (nomark _))
        (pss_one (ps_raise rfl (takes_of rfl rfl rfl rfl) (pmk_own PySem.F.excBase_ValueError X.e X.g X.k (raises_own X.b X.t) rfl))) pss_nil)
      (pss_one (ps_ret (pe_call (lift0 GF) hr2 (by rfl) gF kF bF .nil (passes_call (takes_of rfl rfl rfl rfl) fun _ _ _ _ z => z) (pa_cons (pv 6) pa_nil)))))), ?_⟩
    refine ⟨_, rfl, _, rfl, _, rfl, _, rfl, _, rfl, _, rfl, by show 6 ≤ sizeLine; decide, fun t ht => ?_⟩
    have s1 := same_upd (o := .tup [v1, v2, v3, v4, v5, v6]) ht
    have h6' := h6.same s1
    refine ⟨_, rfl, t, _, bs, rfl, upd_same, h6'.pr, fun hb => ?_, fun hb => h6.bad hb _ s1⟩
    obtain ⟨a, b, c, d, e, g, exs⟩ := six_ints h6.pr hb
    have ht1 : (upd H t (.tup [v1, v2, v3, v4, v5, v6])) t = some (iv [a, b, c, d, e, g]) := by
      rw [upd_same, exs]
      rfl
    refine ⟨_, rfl, t, a, b, c, d, e, g, rfl, ht1, fun r H2 s2 hr2 hq => ?_⟩
    have s12 := s1.trans s2
    refine ⟨r, a, b, c, d, e, g, rfl, hq, fun hj H3 s3 => ?_, fun hj k H3 s3 => ?_⟩
    · refine ⟨rfl, _, rfl, iteNS rfl ?_⟩
      have s23 := s2.trans s3
      refine ⟨_, rfl, t, a, b, c, d, e, g, rfl, s23 _ _ ht1, fun r' L1 L2 H4 s4 hr4 l1 l2 hf => ?_⟩
      exact h6.yes a b c d e g exs hb hj r' L1 L2 H4 ((s1.trans s23).trans s4) l1 l2 hf
    · exact ⟨rfl, _, rfl, iteNT (fun z => by cases z) (h6.no a b c d e g exs hb hj _ (s12.trans s3))⟩
/-! ### form_of_tuple -/
/-- what is no six -/
def NoSix (K : PySem.W.Frag) (H : Hp) (v : V) : Prop := (∃ t, TyX K H v t ∧ PySem.W.kitOne K t (.type "tuple") = some false) ∨ ∃ a xs, v = .ref a ∧ H a = some (.tup xs) ∧ xs.length ≠ 6
def spFormT (K : PySem.W.Frag) (CS CT : Addr) : Sp := fun vs H Q E => ∃ v, vs = [v] ∧ ((NoSix K H v ∧ ∀ H', Same H H' → E (.ref CT) none H') ∨ ∃ (t : Addr) (v1 v2 v3 v4 v5 v6 : V) (bs : List Bool), v = .ref t ∧ H t = some (.tup [v1, v2, v3, v4, v5, v6]) ∧ Told6 K H [v1, v2, v3, v4, v5, v6] bs (fun r L1 L2 H' => Q (.ref r) H') (fun H' => E (.ref CS) none H') (fun H' => E (.ref CT) none H'))
theorem scFormT : FnScope ["sizes"] ["sizes"] (defScope sFormT) := ⟨rfl, rfl, rfl, by decide +kernel, rfl, by decide +kernel, by decide +kernel⟩
theorem ok_formT {fF : Addr} {fdF : FuncData} (F : FnP K "form_of_tuple" sFormT f fd) (X : XTxt K mg "NoTriple" CT) (GF : FnOk P w K mg base (L2.CX P w) 4 fF fdF ["a", "b", "c", "d", "e", "f"] (spForms K CS CT)) (bF : L2.Binds K fdF ["a", "b", "c", "d", "e", "f"] []) (kF : PySem.W.keepIn K (.ref fF) = true) (gF : mg "forms_of" = some (.ref fF)) (gI : mg "isinstance" = none) (gt : mg "tuple" = none) (gl : mg "len" = none) :
    FnOk P w K mg base (L2.CX P w) 5 f fd ["sizes"] (spFormT K CS CT) := by
  refine F.ok scFormT (fun vs H Q E h => ?_) (fun cdv A outer s H vs Q E hr h => ?_)
  · obtain ⟨v, rfl, _⟩ := h
    rfl
  · obtain ⟨v, rfl, h⟩ := h
    refine ⟨_, pss_cons (ps_if (PW.pt (pw_or (pt_not (pt_val (pe_callB call_isi (by rfl) gI (by decide +kernel) (pa_cons (pv 0) (pa_cons (pe_bltn (v := .ty "tuple") (by rfl) gt (by decide +kernel) rfl) pa_nil))))) (pw_or1 (pt_cmpR op_ne (pe_callB call_len_seq (by rfl) gl PySem.boot_len (pa_cons (pv 0) pa_nil)) pe_int (nomark _)))))
        (pss_one (ps_raise rfl (takes_of rfl rfl rfl rfl) (pmk_own PySem.F.excBase_ValueError X.e X.g X.k (raises_own X.b X.t) rfl))) pss_nil)
      (pss_one (ps_ret (StX.pe_callS1 (FnOk.raw GF bF .nil) hr kF (by rfl) gF (passes_call (takes_of rfl rfl rfl rfl) fun _ _ _ _ z => z) (pv 0)))), ?_⟩
    rcases h with ⟨hn, q⟩ | ⟨t, v1, v2, v3, v4, v5, v6, bs, rfl, ht, h6⟩
    · rcases hn with ⟨ty, h1, h2⟩ | ⟨a, xs, rfl, h1, h2⟩
      · exact ⟨_, rfl, _, _, _, _, false, rfl, .ty "tuple", h1, h2, false, rfl, iteT (iteT (q _ (Same.refl _)))⟩
      · refine ⟨_, rfl, _, _, _, _, true, rfl, .ty "tuple", .base (.tup h1), kit_ty (by decide +kernel), true, rfl, iteF ?_⟩
        exact ⟨_, rfl, a, _, rfl, .inr (SqT.of h1), rfl, _, rfl, iteNT (ine (by omega)) (q _ (Same.refl _))⟩
    · refine ⟨_, rfl, _, _, _, _, true, rfl, .ty "tuple", .base (.tup ht), kit_ty (by decide +kernel), true, rfl, iteF ?_⟩
      refine ⟨_, rfl, t, _, rfl, .inr (SqT.of ht), rfl, _, rfl, iteNS rfl ?_⟩
      exact ⟨_, rfl, t, _, rfl, .inl (SqT.of ht), v1, v2, v3, v4, v5, v6, bs, rfl, h6⟩
end
end TC
namespace TC
open PySem PySem.Spec PyProof.Rows L2 TCA TCX
theorem fits_can (a b c : Int) : fitsB a b c = canJ a b c := by
  unfold fitsB canJ
  have h2 : (a + b + c) % 2 = 0 ∨ (a + b + c) % 2 = 1 := by omega
  rcases h2 with h | h
  · rw [if_neg (by omega), decide_eq_true h]
    by_cases h1 : c ≤ a + b <;> by_cases h2 : a ≤ b + c <;> by_cases h3 : b ≤ a + c <;> simp [h1, h2, h3]
  · rw [if_pos h, decide_eq_false (by omega)]
    rfl
/-- the four triangles, a list -/
def QuadL (H : Hp) (r : Addr) (a b c d e f : Int) : Prop := ∃ t1 t2 t3 t4, H r = some (.lst [.ref t1, .ref t2, .ref t3, .ref t4]) ∧ H t1 = some (iv [a, b, c]) ∧ H t2 = some (iv [a, e, f]) ∧ H t3 = some (iv [d, b, f]) ∧ H t4 = some (iv [d, e, c])
section
variable {P : Program} {w : World} {K : PySem.W.Frag} {mg : Str → Option Value} {base : Heap} {f : Addr} {fd : FuncData} {CS CT : Addr}
/-! ### alike_sixes -/
def spAlike (K : PySem.W.Frag) (CS CT : Addr) : Sp := fun vs H Q E => ∃ u v, vs = [u, v] ∧
  spFormT K CS CT [u] H (fun r H1 => ∃ (a : Addr) (L1 L2 : List Int), r = .ref a ∧ FormT H1 a L1 L2 ∧ spFormT K CS CT [v] H1 (fun r' H2 => Same H1 H2 ∧ ∃ (a' : Addr) (M1 M2 : List Int), r' = .ref a' ∧ FormT H2 a' M1 M2 ∧ Q (.bl (decide (L1 = M1) && decide (L2 = M2))) H2) E) E
theorem scAlike : FnScope ["sizes", "others", "form"] ["sizes", "others"] (defScope sAlike) := ⟨rfl, rfl, rfl, by decide +kernel, rfl, by decide +kernel, by decide +kernel⟩
theorem ok_alike {fF : Addr} {fdF : FuncData} (F : FnP K "alike_sixes" sAlike f fd) (GF : FnOk P w K mg base (L2.CX P w) 5 fF fdF ["sizes"] (spFormT K CS CT)) (bF : L2.Binds K fdF ["sizes"] []) (kF : PySem.W.keepIn K (.ref fF) = true) (gF : mg "form_of_tuple" = some (.ref fF)) :
    FnOk P w K mg base (L2.CX P w) 6 f fd ["sizes", "others"] (spAlike K CS CT) := by
  refine F.ok scAlike (fun vs H Q E h => ?_) (fun cdv A outer s H vs Q E hr h => ?_)
  · obtain ⟨u, v, rfl, _⟩ := h
    rfl
  · obtain ⟨u, v, rfl, h⟩ := h
    have GB := boxed GF
    refine ⟨_, pss_cons (ps_set (i := 2) scAlike.nd rfl (.inl rfl) (pe_call GB hr (by rfl) gF kF bF .nil (passes_call (takes_of rfl rfl rfl rfl) fun _ _ _ _ z => z) (pa_cons (pv 0) pa_nil)))
      (pss_one (ps_ret (pe_cmpR (op_eqD hr.units) (pv 2) (pe_call GB hr (by rfl) gF kF bF .nil (passes_call (takes_of rfl rfl rfl rfl) fun _ _ _ _ z => z) (pa_cons (pv 1) pa_nil)) (nomark _)))), ?_⟩
    have mono : ∀ {x : V} {H : Hp} {Q Q' : VK}, (∀ r H', Q r H' → Q' r H') → spFormT K CS CT [x] H Q E → spFormT K CS CT [x] H Q' E := fun {x H Q Q'} hq h => by
      obtain ⟨v, e, h⟩ := h
      refine ⟨v, e, h.imp id fun h => ?_⟩
      obtain ⟨t, v1, v2, v3, v4, v5, v6, bs, e1, e2, ⟨p1, p2, p3, p4⟩⟩ := h
      exact ⟨t, v1, v2, v3, v4, v5, v6, bs, e1, e2, ⟨p1, p2, p3, fun a b c d e g x y z r L1 L2 H' s l1 l2 hf => hq _ _ (p4 a b c d e g x y z r L1 L2 H' s l1 l2 hf)⟩⟩
    refine ⟨_, rfl, ⟨mono (fun r H1 h1 => ?_) h⟩⟩
    obtain ⟨a, L1, L2, rfl, hf, h1⟩ := h1
    refine ⟨_, rfl, _, rfl, ⟨mono (fun r' H2 h2 => ?_) h1⟩⟩
    obtain ⟨sm, a', M1, M2, rfl, hf', q⟩ := h2
    refine ⟨_, _, (hf.same sm).dp, hf'.dp, form_shaped L1 L2, form_shaped M1 M2, ?_⟩
    rw [form_eqv]
    exact q
/-! ### _law_triples -/
def spTriples : Sp := fun vs H Q _ => ∃ (t : Addr) (a b c d e g : Int), vs = [.ref t] ∧ H t = some (iv [a, b, c, d, e, g]) ∧ ∀ r H', Same H H' → H r = none → QuadL H' r a b c d e g → Q (.ref r) H'
abbrev nTriples : List Str := ["_law_sizes_here", "_law_a", "_law_b", "_law_c", "_law_d", "_law_e", "_law_f"]
theorem scTriples : FnScope nTriples ["_law_sizes_here"] (defScope sTriples) := ⟨rfl, rfl, rfl, by decide +kernel, rfl, by decide +kernel, by decide +kernel⟩
theorem ok_triples (F : FnP K "_law_triples" sTriples f fd) : FnOk P w K mg base CX0 1 f fd ["_law_sizes_here"] spTriples := by
  refine F.ok scTriples (fun vs H Q E h => ?_) (fun cdv A outer s H vs Q E hr h => ?_)
  · obtain ⟨t, _, _, _, _, _, _, rfl, _⟩ := h
    rfl
  · obtain ⟨t, a, b, c, d, e, g, rfl, ht, q⟩ := h
    refine ⟨_, PSs.nox (pss_cons (ps_asg (pv 0) (pg_tup rfl (pgs_cons (pg_name (i := 1) scTriples.nd rfl (.inl rfl)) (pgs_cons (pg_name (i := 2) scTriples.nd rfl (.inl rfl)) (pgs_cons (pg_name (i := 3) scTriples.nd rfl (.inl rfl)) (pgs_cons (pg_name (i := 4) scTriples.nd rfl (.inl rfl)) (pgs_cons (pg_name (i := 5) scTriples.nd rfl (.inl rfl)) (pgs_cons (pg_name (i := 6) scTriples.nd rfl (.inl rfl)) pgs_nil))))))))
      (pss_one (ps_ret (pe_lst (pa_cons (pe_tup (pa_cons (pv 1) (pa_cons (pv 2) (pa_cons (pv 3) pa_nil)))) (pa_cons (pe_tup (pa_cons (pv 1) (pa_cons (pv 5) (pa_cons (pv 6) pa_nil)))) (pa_cons (pe_tup (pa_cons (pv 4) (pa_cons (pv 2) (pa_cons (pv 6) pa_nil)))) (pa_cons (pe_tup (pa_cons (pv 4) (pa_cons (pv 5) (pa_cons (pv 3) pa_nil)))) pa_nil)))))))), ?_⟩
    refine ⟨_, rfl, t, _, rfl, SqT.of ht, rfl, _, _, rfl, _, _, rfl, _, _, rfl, _, _, rfl, _, _, rfl, _, _, rfl, rfl, ?_⟩
    refine ⟨_, rfl, _, rfl, _, rfl, by show 3 ≤ sizeLine; decide, fun t1 h1 => ?_⟩
    refine ⟨_, rfl, _, rfl, _, rfl, by show 3 ≤ sizeLine; decide, fun t2 h2 => ?_⟩
    refine ⟨_, rfl, _, rfl, _, rfl, by show 3 ≤ sizeLine; decide, fun t3 h3 => ?_⟩
    refine ⟨_, rfl, _, rfl, _, rfl, by show 3 ≤ sizeLine; decide, fun t4 h4 => ?_⟩
    refine ⟨by show 4 ≤ sizeLine; decide, fun r hr' => ?_⟩
    have s1 := same_upd (o := iv [a, b, c]) h1
    have s2 := same_upd (o := iv [a, e, g]) h2
    have s3 := same_upd (o := iv [d, b, g]) h3
    have s4 := same_upd (o := iv [d, e, c]) h4
    have s5 := same_upd (o := .lst [.ref t1, .ref t2, .ref t3, .ref t4]) hr'
    have s45 := s4.trans s5
    have s35 := s3.trans s45
    have s25 := s2.trans s35
    have s14 := ((s1.trans s2).trans s3).trans s4
    exact q r _ (s1.trans s25) (s14.free hr') ⟨t1, t2, t3, t4, upd_same, s25 _ _ upd_same, s35 _ _ upd_same, s45 _ _ upd_same, s5 _ _ upd_same⟩
end
end TC
namespace TC
open PySem PySem.Spec PyProof.Rows L2 TCA TCX
theorem quad_get {H : Hp} {t1 t2 t3 t4 : Addr} {a b c d e g : Int} (q1 : H t1 = some (iv [a, b, c])) (q2 : H t2 = some (iv [a, e, g])) (q3 : H t3 = some (iv [d, b, g])) (q4 : H t4 = some (iv [d, e, c])) (i : Nat) (x : V) (hx : ([.ref t1, .ref t2, .ref t3, .ref t4] : List V)[i]? = some x) : ∃ u l, x = .ref u ∧ H u = some (iv l) ∧ (quad a b c d e g)[i]? = some l ∧ u ∈ [t1, t2, t3, t4] := by
  match i, hx with
  | 0, hx => exact ⟨t1, _, (Option.some.inj hx).symm, q1, rfl, by simp⟩
  | 1, hx => exact ⟨t2, _, (Option.some.inj hx).symm, q2, rfl, by simp⟩
  | 2, hx => exact ⟨t3, _, (Option.some.inj hx).symm, q3, rfl, by simp⟩
  | 3, hx => exact ⟨t4, _, (Option.some.inj hx).symm, q4, rfl, by simp⟩
  | n + 4, hx => cases hx
theorem quad_three {a b c d e g : Int} {i : Nat} {l : List Int} (h : (quad a b c d e g)[i]? = some l) : ∃ x y z, l = [x, y, z] := by
  match i, h with
  | 0, h => exact ⟨_, _, _, (Option.some.inj h).symm⟩
  | 1, h => exact ⟨_, _, _, (Option.some.inj h).symm⟩
  | 2, h => exact ⟨_, _, _, (Option.some.inj h).symm⟩
  | 3, h => exact ⟨_, _, _, (Option.some.inj h).symm⟩
  | n + 4, h => cases h
def fit3 (l : List Int) : Bool := canJ (l.getD 0 0) (l.getD 1 0) (l.getD 2 0)
theorem jn_all (a b c d e g : Int) : Jn a b c d e g = (quad a b c d e g).all fit3 := by
  simp [Jn, quad, fit3]
section
variable {P : Program} {w : World} {K : PySem.W.Frag} {mg : Str → Option Value} {base : Heap} {f : Addr} {fd : FuncData}
/-! ### _law_halved -/
def spHalved : Sp := fun vs H Q _ => ∃ (t : Addr) (a b c d e g : Int), vs = [.ref t] ∧ H t = some (iv [a, b, c, d, e, g]) ∧ ∀ r l1 l2 H', Same H H' → H' r = some (.tup [.ref l1, .ref l2]) → H' l1 = some (.lst ((lows a b c d e g).map V.int)) → H' l2 = some (.lst ((opps a b c d e g).map V.int)) → Q (.ref r) H'
abbrev nHalved : List Str := ["_law_sizes_here", "_law_a", "_law_b", "_law_c", "_law_d", "_law_e", "_law_f", "_law_opposite", "_law_some"]
theorem scHalved : FnScope nHalved ["_law_sizes_here"] (defScope sHalved) := ⟨rfl, rfl, rfl, by decide +kernel, rfl, by decide +kernel, by decide +kernel⟩
theorem ok_halved {fT : Addr} {fdT : FuncData} (F : FnP K "_law_halved" sHalved f fd) (GT : FnOk P w K mg base CX0 1 fT fdT ["_law_sizes_here"] spTriples) (bT : L2.Binds K fdT ["_law_sizes_here"] []) (kT : PySem.W.keepIn K (.ref fT) = true) (gT : mg "_law_triples" = some (.ref fT)) (gs : mg "sum" = none) :
    FnOk P w K mg base CX0 2 f fd ["_law_sizes_here"] spHalved := by
  refine F.ok scHalved (fun vs H Q E h => ?_) (fun cdv A outer s H vs Q E hr h => ?_)
  · obtain ⟨t, _, _, _, _, _, _, rfl, _⟩ := h
    rfl
  · obtain ⟨t, a, b, c, d, e, g, rfl, ht, q⟩ := h
    refine ⟨_, PSs.nox (pss_cons (ps_asg (pv 0) (pg_tup rfl (pgs_cons (pg_name (i := 1) scHalved.nd rfl (.inl rfl)) (pgs_cons (pg_name (i := 2) scHalved.nd rfl (.inl rfl)) (pgs_cons (pg_name (i := 3) scHalved.nd rfl (.inl rfl)) (pgs_cons (pg_name (i := 4) scHalved.nd rfl (.inl rfl)) (pgs_cons (pg_name (i := 5) scHalved.nd rfl (.inl rfl)) (pgs_cons (pg_name (i := 6) scHalved.nd rfl (.inl rfl)) pgs_nil))))))))
      (pss_cons (ps_set (i := 7) scHalved.nd rfl (.inl rfl) (pe_lst (pa_cons (pe_op op_fdiv (pe_op op_add (pe_op op_add (pe_op op_add (pv 1) (pv 2)) (pv 4)) (pv 5)) pe_int) (pa_cons (pe_op op_fdiv (pe_op op_add (pe_op op_add (pe_op op_add (pv 2) (pv 3)) (pv 5)) (pv 6)) pe_int) (pa_cons (pe_op op_fdiv (pe_op op_add (pe_op op_add (pe_op op_add (pv 3) (pv 1)) (pv 6)) (pv 4)) pe_int) pa_nil)))))
      (pss_one (ps_ret (pe_tup (pa_cons (pe_lc (own := [("_law_some", 8)]) (g := gName 8) (tt := tYes) (te := tOp (rI CDiv fun i j => .int (i / j)) (tCB (rSumT K) (tCons (tVar 8) tNil)) (tC (.int 2))) (by rfl) scHalved.nd (pi_list (pe_call GT hr (by rfl) gT kT bT .nil pass0 (pa_cons (pv 0) pa_nil)))
          (blkOk_by (N := nHalved) (sc := defScope sHalved) (by decide +kernel)) (fun _ _ _ _ _ => pg_name (i := 8) scHalved.nd rfl (.inl rfl)) (fun _ _ _ _ _ => pts_nil) (fun _ _ _ _ _ => pe_op op_fdiv (pe_callB (cr_sumT rfl) (by rfl) gs (by decide +kernel) (pa_cons (pv 8) pa_nil)) pe_int)) (pa_cons (pv 7) pa_nil))))))), ?_⟩
    refine ⟨_, rfl, t, _, rfl, SqT.of ht, rfl, _, _, rfl, _, _, rfl, _, _, rfl, _, _, rfl, _, _, rfl, _, _, rfl, rfl, ?_⟩
    refine ⟨_, rfl, _, rfl, a, b, rfl, rfl, _, rfl, _, d, rfl, rfl, _, rfl, _, e, rfl, rfl, _, 2, rfl, rfl, ⟨by decide, by decide⟩, ?_⟩
    refine ⟨_, rfl, _, rfl, b, c, rfl, rfl, _, rfl, _, e, rfl, rfl, _, rfl, _, g, rfl, rfl, _, 2, rfl, rfl, ⟨by decide, by decide⟩, ?_⟩
    refine ⟨_, rfl, _, rfl, c, a, rfl, rfl, _, rfl, _, g, rfl, rfl, _, rfl, _, d, rfl, rfl, _, 2, rfl, rfl, ⟨by decide, by decide⟩, by show 3 ≤ sizeLine; decide, fun o ho => ?_⟩
    have s0 := same_upd (o := .lst ((opps a b c d e g).map V.int)) ho
    refine ⟨_, rfl, t, a, b, c, d, e, g, rfl, s0 _ _ ht, fun r H1 s1 hr1 hq => ?_⟩
    obtain ⟨t1, t2, t3, t4, q0, q1, q2, q3, q4⟩ := hq
    have hget := quad_get q1 q2 q3 q4
    refine ⟨r, rfl, ⟨_, SqL.of q0⟩, fun D hD => lc_list (xs := [.ref t1, .ref t2, .ref t3, .ref t4]) (fun i H' => Same H1 H' ∧ H' D = some (.lst ((((quad a b c d e g).take i).map fun l => l.sum / 2).map V.int))) ⟨same_upd hD, upd_same⟩ (fun i H' _ hP => SqL.of (hP.1 _ _ q0)) (fun i x H' hx hP => ?_) (fun H' hP => ?_)⟩
    · obtain ⟨sm, hd⟩ := hP
      obtain ⟨u, l, rfl, hu, hl, _⟩ := hget i x hx
      have il : i < (quad a b c d e g).length := (List.getElem?_eq_some_iff.mp hl).1
      refine ⟨rfl, ?_⟩
      refine ⟨_, rfl, u, l, rfl, SqT.of (sm _ _ hu), _, 2, rfl, rfl, ⟨by decide, by decide⟩, _, hd, ?_, same_at sm hD, ?_⟩
      · rw [List.length_map, List.length_map, List.length_take, sizeLine_eq]
        have : (quad a b c d e g).length = 4 := rfl
        omega
      · rw [upd_same, List.take_add_one, hl, List.map_append, List.map_append]
        rfl
    · obtain ⟨sm, hd⟩ := hP
      rw [show ((quad a b c d e g).take ([.ref t1, .ref t2, .ref t3, .ref t4] : List V).length) = quad a b c d e g from rfl] at hd
      refine ⟨_, rfl, by show 2 ≤ sizeLine; decide, fun rr hrr => ?_⟩
      have s3 := same_upd (o := .tup [.ref D, .ref o]) hrr
      exact q rr D o _ (((s0.trans s1).trans sm).trans s3) upd_same (s3 _ _ hd) ((s1.trans (sm.trans s3)) _ _ upd_same)
/-! ### _law_form -/
abbrev nFormL : List Str := ["_law_sizes_here", "_law_lows", "_law_highs"]
theorem scFormL : FnScope nFormL ["_law_sizes_here"] (defScope sFormL) := ⟨rfl, rfl, rfl, by decide +kernel, rfl, by decide +kernel, by decide +kernel⟩
theorem ok_formL {fT : Addr} {fdT : FuncData} (F : FnP K "_law_form" sFormL f fd) (GT : FnOk P w K mg base CX0 2 fT fdT ["_law_sizes_here"] spHalved) (bT : L2.Binds K fdT ["_law_sizes_here"] []) (kT : PySem.W.keepIn K (.ref fT) = true) (gT : mg "_law_halved" = some (.ref fT)) (go : mg "sorted" = none) (gt : mg "tuple" = none) :
    FnOk P w K mg base CX0 3 f fd ["_law_sizes_here"] spForm := by
  refine F.ok scFormL (fun vs H Q E h => ?_) (fun cdv A outer s H vs Q E hr h => ?_)
  · obtain ⟨t, _, _, _, _, _, _, rfl, _⟩ := h
    rfl
  · obtain ⟨t, a, b, c, d, e, g, rfl, ht, q⟩ := h
    refine ⟨_, PSs.nox (pss_cons (ps_asg (pe_call GT hr (by rfl) gT kT bT .nil pass0 (pa_cons (pv 0) pa_nil)) (pg_tup rfl (pgs_cons (pg_name (i := 1) scFormL.nd rfl (.inl rfl)) (pgs_cons (pg_name (i := 2) scFormL.nd rfl (.inl rfl)) pgs_nil))))
      (pss_one (ps_ret (pe_tup (pa_cons (pe_callTy call_tuple_of (by rfl) gt (by decide +kernel) (pa_cons (pe_callB cr_sortedI (by rfl) go (by decide +kernel) (pa_cons (pv 1) pa_nil)) pa_nil)) (pa_cons (pe_callTy call_tuple_of (by rfl) gt (by decide +kernel) (pa_cons (pe_callB cr_sortedI (by rfl) go (by decide +kernel) (pa_cons (pv 2) pa_nil)) pa_nil)) pa_nil)))))), ?_⟩
    refine ⟨_, rfl, t, a, b, c, d, e, g, rfl, ht, fun r l1 l2 H1 s1 hr1 h1 h2 => ?_⟩
    refine ⟨r, _, rfl, SqT.of hr1, rfl, _, _, rfl, _, _, rfl, rfl, ?_⟩
    refine ⟨_, rfl, l1, lows a b c d e g, rfl, SqL.of h1, fun L1 p1 pm1 st1 hp1 => ?_⟩
    have s4 := same_upd (o := .lst (L1.map V.int)) hp1
    refine ⟨p1, _, rfl, .inl ⟨SqL.of upd_same, fun r1 hr1' => ?_⟩⟩
    have s5 := same_upd (o := iv L1) hr1'
    refine ⟨_, rfl, l2, opps a b c d e g, rfl, SqL.of ((s4.trans s5) _ _ h2), fun L2 p2 pm2 st2 hp2 => ?_⟩
    have s6 := same_upd (o := .lst (L2.map V.int)) hp2
    refine ⟨p2, _, rfl, .inl ⟨SqL.of upd_same, fun r2 hr2' => ?_⟩⟩
    have s7 := same_upd (o := iv L2) hr2'
    refine ⟨by show 2 ≤ sizeLine; decide, fun rr hrr => ?_⟩
    have s8 := same_upd (o := .tup [.ref r1, .ref r2]) hrr
    have sAll := (((s1.trans s4).trans s5).trans s6).trans s7
    exact q rr L1 L2 _ (sAll.trans s8) (sAll.free hrr) ⟨pm1, st1⟩ ⟨pm2, st2⟩ ⟨r1, r2, upd_same, ((s6.trans s7).trans s8) _ _ upd_same, s8 _ _ upd_same⟩
end
end TC
namespace TC
open PySem PySem.Spec PyProof.Rows L2 TCA TCX
section
variable {P : Program} {w : World} {K : PySem.W.Frag} {mg : Str → Option Value} {base : Heap} {f : Addr} {fd : FuncData}
/-! ### _law_all_fit -/
/-- the tuples kept: addresses and what they hold -/
def KeptAt (H : Hp) : List Addr → List (List Int) → Prop
  | [], [] => True
  | u :: us, l :: ls => H u = some (iv l) ∧ KeptAt H us ls
  | _, _ => False
theorem KeptAt.same {H H' : Hp} (s : Same H H') : ∀ {us : List Addr} {ls : List (List Int)}, KeptAt H us ls → KeptAt H' us ls
  | [], [], _ => trivial
  | _ :: _, _ :: _, h => ⟨s _ _ h.1, KeptAt.same s h.2⟩
  | [], _ :: _, h => h
  | _ :: _, [], h => h
theorem KeptAt.len {H : Hp} : ∀ {us : List Addr} {ls : List (List Int)}, KeptAt H us ls → us.length = ls.length
  | [], [], _ => rfl
  | _ :: _, _ :: _, h => congrArg (· + 1) h.2.len
  | [], _ :: _, h => h.elim
  | _ :: _, [], h => h.elim
theorem KeptAt.snoc {H : Hp} {u : Addr} {l : List Int} (hu : H u = some (iv l)) : ∀ {us : List Addr} {ls : List (List Int)}, KeptAt H us ls → KeptAt H (us ++ [u]) (ls ++ [l])
  | [], [], _ => ⟨hu, trivial⟩
  | _ :: _, _ :: _, h => ⟨h.1, KeptAt.snoc hu h.2⟩
  | [], _ :: _, h => h.elim
  | _ :: _, [], h => h.elim
theorem KeptAt.dp {H : Hp} : ∀ {us : List Addr} {ls : List (List Int)}, KeptAt H us ls → DpAll K H (us.map V.ref) (ls.map dT)
  | [], [], _ => .nil
  | _ :: _, l :: _, h => .cons (.tup (SqT.of h.1) (dpAll_ints l)) (KeptAt.dp h.2)
  | [], _ :: _, h => h.elim
  | _ :: _, [], h => h.elim
theorem kept_lay : ∀ ls : List (List Int), PyData.canLayAll0 (ls.map dT) = true ∧ PyData.depthAll (ls.map dT) ≤ 1
  | [] => ⟨rfl, Nat.zero_le _⟩
  | x :: L => by
    obtain ⟨h1, h2⟩ := kept_lay L
    obtain ⟨a1, a2⟩ := ints_lay x
    refine ⟨?_, ?_⟩
    · show (PyData.canLayAll0 (dInts x) && PyData.canLayAll0 (L.map dT)) = true
      rw [h1, a1]
      rfl
    · show max (PyData.depthAll (dInts x) + 1) (PyData.depthAll (L.map dT)) ≤ 1
      exact Nat.max_le.mpr ⟨by omega, h2⟩
theorem kept_shaped (ls : List (List Int)) : SeqAt.shaped (.list (ls.map dT)) = true := by
  obtain ⟨h1, h2⟩ := kept_lay ls
  show (PyData.canLayAll0 (ls.map dT) && decide (PyData.depthAll (ls.map dT) + 1 ≤ 64)) = true
  rw [h1, decide_eq_true (by omega)]
  rfl
theorem kept_eqv (ls : List (List Int)) : PyData.eqv (.list (ls.map dT)) (.list []) = decide (ls = []) := by
  cases ls with
  | nil => rfl
  | cons x L => rfl
def spAllFit : Sp := fun vs H Q _ => ∃ (t : Addr) (a b c d e g : Int), vs = [.ref t] ∧ H t = some (iv [a, b, c, d, e, g]) ∧ ∀ H', Same H H' → Q (.bl (Jn a b c d e g)) H'
abbrev nAllFit : List Str := ["_law_sizes_here", "_law_some"]
theorem scAllFit : FnScope nAllFit ["_law_sizes_here"] (defScope sAllFit) := ⟨rfl, rfl, rfl, by decide +kernel, rfl, by decide +kernel, by decide +kernel⟩
theorem ok_allFit {fT fF : Addr} {fdT fdF : FuncData} (F : FnP K "_law_all_fit" sAllFit f fd) (GT : FnOk P w K mg base CX0 1 fT fdT ["_law_sizes_here"] spTriples) (bT : L2.Binds K fdT ["_law_sizes_here"] []) (kT : PySem.W.keepIn K (.ref fT) = true) (gT : mg "_law_triples" = some (.ref fT))
    (GF : FnOk P w K mg base CX0 1 fF fdF ["_law_a", "_law_b", "_law_c"] spFits) (bF : L2.Binds K fdF ["_law_a", "_law_b", "_law_c"] []) (kF : PySem.W.keepIn K (.ref fF) = true) (gF : mg "_law_fits" = some (.ref fF)) :
    FnOk P w K mg base CX0 2 f fd ["_law_sizes_here"] spAllFit := by
  refine F.ok scAllFit (fun vs H Q E h => ?_) (fun cdv A outer s H vs Q E hr h => ?_)
  · obtain ⟨t, _, _, _, _, _, _, rfl, _⟩ := h
    rfl
  · obtain ⟨t, a, b, c, d, e, g, rfl, ht, q⟩ := h
    refine ⟨_, PSs.nox (pss_one (ps_ret (pe_cmpR (op_eqD hr.units) (pe_lc (own := [("_law_some", 1)]) (g := gName 1) (tt := tNot (tB (tCall spFits [] E0 (tCons (tOp (rIxT K) (tVar 1) (tC (.int 0))) (tCons (tOp (rIxT K) (tVar 1) (tC (.int 1))) (tCons (tOp (rIxT K) (tVar 1) (tC (.int 2))) tNil)))))) (te := tVar 1) (by rfl) scAllFit.nd (pi_list (pe_call GT hr (by rfl) gT kT bT .nil pass0 (pa_cons (pv 0) pa_nil)))
          (blkOk_by (N := nAllFit) (sc := defScope sAllFit) (by decide +kernel)) (fun _ _ _ _ _ => pg_name (i := 1) scAllFit.nd rfl (.inl rfl)) (fun _ _ _ _ _ => pts_one (pt_not (pt_val (pe_call GF hr (by rfl) gF kF bF .nil pass0 (pa_cons (pe_ix ix_tup (pv 1) pe_int (fun _ _ => rfl)) (pa_cons (pe_ix ix_tup (pv 1) pe_int (fun _ _ => rfl)) (pa_cons (pe_ix ix_tup (pv 1) pe_int (fun _ _ => rfl)) pa_nil))))))) (fun _ _ _ _ _ => pv 1)) (pe_lst pa_nil) (nomark _)))), ?_⟩
    refine ⟨_, rfl, t, a, b, c, d, e, g, rfl, ht, fun r H1 s1 hr1 hq => ?_⟩
    obtain ⟨t1, t2, t3, t4, q0, q1, q2, q3, q4⟩ := hq
    have hget := quad_get q1 q2 q3 q4
    refine ⟨r, rfl, ⟨_, SqL.of q0⟩, fun D hD => lc_list (xs := [.ref t1, .ref t2, .ref t3, .ref t4]) (fun i H' => Same H1 H' ∧ ∃ us, H' D = some (.lst (us.map V.ref)) ∧ KeptAt H' us (((quad a b c d e g).take i).filter fun l => !fit3 l) ∧ us.length ≤ i) ⟨same_upd hD, [], upd_same, trivial, Nat.le_refl _⟩ (fun i H' _ hP => SqL.of (hP.1 _ _ q0)) (fun i x H' hx hP => ?_) (fun H' hP => ?_)⟩
    · obtain ⟨sm, us, hd, hk, lu⟩ := hP
      obtain ⟨u, l, rfl, hu, hl, hm⟩ := hget i x hx
      obtain ⟨x1, y1, z1, rfl⟩ := quad_three hl
      have il : i < (quad a b c d e g).length := (List.getElem?_eq_some_iff.mp hl).1
      have i4 : i < 4 := il
      have hu' := sm _ _ hu
      have hDu : u ≠ D := fun z => by
        rw [z, hD] at hu
        cases hu
      refine ⟨rfl, ?_⟩
      refine ⟨_, rfl, u, _, 0, _, rfl, rfl, SqT.of hu', atI_nat (j := 0) rfl, _, rfl, u, _, 1, _, rfl, rfl, SqT.of hu', atI_nat (j := 1) rfl, _, rfl, u, _, 2, _, rfl, rfl, SqT.of hu', atI_nat (j := 2) rfl, x1, y1, z1, rfl, _, rfl, ?_⟩
      rw [fits_can]
      have ef : fit3 [x1, y1, z1] = canJ x1 y1 z1 := rfl
      have hk2 : ∀ {G : Hp}, Same H1 G → KeptAt H1 us (((quad a b c d e g).take i).filter fun l => !fit3 l) → KeptAt G us (((quad a b c d e g).take i).filter fun l => !fit3 l) := fun s h => h.same s
      cases hc : canJ x1 y1 z1 with
      | true =>
        refine iteF ⟨sm, us, hd, ?_, by omega⟩
        rw [List.take_add_one, hl, List.filter_append]
        simp only [Option.toList, List.filter_cons, List.filter_nil, ef, hc]
        simpa using hk
      | false =>
        refine iteT ⟨_, rfl, _, hd, ?_, same_at sm hD, us ++ [u], ?_, ?_, ?_⟩
        · rw [List.length_map, sizeLine_eq]
          omega
        · rw [upd_same, List.map_append]
          rfl
        · have hkD : KeptAt (upd H' D (.lst (us.map V.ref ++ [.ref u]))) us (((quad a b c d e g).take i).filter fun l => !fit3 l) := by
            have off : ∀ {us : List Addr} {ls : List (List Int)}, KeptAt H' us ls → KeptAt (upd H' D (.lst ((us.map V.ref) ++ [.ref u]))) us ls → True := fun _ _ => trivial
            clear off
            have go : ∀ (o : HO) {us : List Addr} {ls : List (List Int)}, KeptAt H' us ls → KeptAt (upd H' D o) us ls := by
              intro o us
              induction us with
              | nil =>
                intro ls h
                cases ls with
                | nil => trivial
                | cons _ _ => exact h.elim
              | cons w ws ih =>
                intro ls h
                cases ls with
                | nil => exact h.elim
                | cons l ls =>
                  refine ⟨?_, ih h.2⟩
                  have hw : w ≠ D := fun z => by
                    have h1 := h.1
                    rw [z, hd] at h1
                    cases h1
                  rw [upd_ne hw]
                  exact h.1
            exact go _ hk
          rw [List.take_add_one, hl, List.filter_append]
          simp only [Option.toList, List.filter_cons, List.filter_nil, ef, hc]
          refine KeptAt.snoc ?_ hkD
          rw [upd_ne hDu]
          exact hu'
        · rw [List.length_append]
          show us.length + 1 ≤ i + 1
          omega
    · obtain ⟨sm, us, hd, hk, lu⟩ := hP
      rw [show ((quad a b c d e g).take ([.ref t1, .ref t2, .ref t3, .ref t4] : List V).length) = quad a b c d e g from rfl] at hk
      refine ⟨by show 0 ≤ sizeLine; decide, fun n hn => ?_⟩
      have s3 := same_upd (o := .lst []) hn
      refine ⟨_, .list [], .lst (SqL.of (s3 _ _ hd)) (hk.same s3).dp, .lst (SqL.of upd_same) .nil, kept_shaped _, rfl, ?_⟩
      rw [kept_eqv]
      have ej : decide (((quad a b c d e g).filter fun l => !fit3 l) = []) = Jn a b c d e g := by
        rw [jn_all]
        generalize quad a b c d e g = L
        induction L with
        | nil => rfl
        | cons x L ih =>
          cases hx : fit3 x with
          | true => simp [hx, ← ih]
          | false => simp [hx]
      rw [ej]
      exact q _ ((s1.trans sm).trans s3)
end
end TC
namespace TC
open PySem PySem.Spec PyProof.Rows L2 TCA TCX
section
variable {P : Program} {w : World} {K : PySem.W.Frag} {mg : Str → Option Value} {base : Heap} {f fD fT : Addr} {fd fdD fdT : FuncData}
/-! ### _law_sizes -/
def spSizesL : Sp := fun vs H Q _ => ∃ (p c : Addr) (ms : List Int) (n h : Int), vs = [.ref p, .int h] ∧ PenAt H p c ms n ∧ 0 ≤ n ∧ n ≤ 800000 ∧ 0 ≤ h ∧ h ≤ 100 ∧
  ∀ (r : Addr) (a b d n' : Int) H', 0 ≤ a → a ≤ h → 0 ≤ b → b ≤ h → d ∈ thirdL a b h → n ≤ n' → n' ≤ n + 3 → PenAt H' p c ms n' → SameBut p H H' → H' r = some (iv [a, b, d]) → Q (.ref r) H'
abbrev nSizesL : List Str := ["_law_pen_here", "_law_high", "_law_a", "_law_b"]
theorem scSizesL : FnScope nSizesL ["_law_pen_here", "_law_high"] (defScope sSizesL) := ⟨rfl, rfl, rfl, by decide +kernel, rfl, by decide +kernel, by decide +kernel⟩
theorem ok_sizesL (F : FnP K "_law_sizes" sSizesL f fd) (GD : FnOk P w K mg base CX0 1 fD fdD ["_law_pen_here", "_law_many"] spDraw) (bD : L2.Binds K fdD ["_law_pen_here", "_law_many"] []) (kD : PySem.W.keepIn K (.ref fD) = true) (gD : mg "_law_draw" = some (.ref fD))
    (GT : FnOk P w K mg base CX0 2 fT fdT ["_law_pen_here", "_law_a", "_law_b", "_law_high"] spThird) (bT : L2.Binds K fdT ["_law_pen_here", "_law_a", "_law_b", "_law_high"] []) (kT : PySem.W.keepIn K (.ref fT) = true) (gT : mg "_law_third" = some (.ref fT)) :
    FnOk P w K mg base CX0 3 f fd ["_law_pen_here", "_law_high"] spSizesL := by
  refine F.ok scSizesL (fun vs H Q E h => ?_) (fun cdv A outer s H vs Q E hr h => ?_)
  · obtain ⟨p, c, ms, n, h, rfl, _⟩ := h
    rfl
  · obtain ⟨p, c, ms, n, h, rfl, pen, n0, n8, h0, h1, q⟩ := h
    have hr1 := hr.mono (j := 1) (by decide)
    refine ⟨_, PSs.nox (pss_cons (ps_set (i := 2) scSizesL.nd rfl (.inl rfl) (pe_call GD hr1 (by rfl) gD kD bD .nil pass0 (pa_cons (pv 0) (pa_cons (pe_op op_add (pv 1) pe_int) pa_nil))))
      (pss_cons (ps_set (i := 3) scSizesL.nd rfl (.inl rfl) (pe_call GD hr1 (by rfl) gD kD bD .nil pass0 (pa_cons (pv 0) (pa_cons (pe_op op_add (pv 1) pe_int) pa_nil))))
      (pss_one (ps_ret (pe_tup (pa_cons (pv 2) (pa_cons (pv 3) (pa_cons (pe_call GT hr (by rfl) gT kT bT .nil pass0 (pa_cons (pv 0) (pa_cons (pv 2) (pa_cons (pv 3) (pa_cons (pv 1) pa_nil))))) pa_nil)))))))), ?_⟩
    have big : h + 1 < 2 ^ 1000 := Int.lt_of_lt_of_le (show h + 1 < 1000 by omega) (by decide +kernel)
    refine ⟨_, rfl, _, rfl, h, 1, rfl, rfl, p, c, ms, n, h + 1, rfl, pen, n0, by omega, by omega, big, fun a n1 H1 a0 a1 b0 b1 p1 s1 => ?_⟩
    refine ⟨_, rfl, _, rfl, h, 1, rfl, rfl, p, c, ms, n1, h + 1, rfl, p1, by omega, by omega, by omega, big, fun b n2 H2 c0 c1 d0 d1 p2 s2 => ?_⟩
    refine ⟨_, rfl, _, rfl, _, rfl, _, rfl, _, rfl, _, rfl, p, c, ms, n2, a, b, h, rfl, p2, by omega, by omega, a0, c0, h0, by omega, fun d n3 H3 hd e0 e1 p3 s3 => ?_⟩
    refine ⟨by show 3 ≤ sizeLine; decide, fun r hr' => ?_⟩
    have s4 := same_upd (o := iv [a, b, d]) hr'
    exact q r a b d n3 _ a0 (by omega) c0 (by omega) hd (by omega) (by omega) (p3.same s4) (SameBut.trans (SameBut.trans s1 s2) (SameBut.trans s3 (Same.but s4))) upd_same
/-! ### _law_moved -/
/-- the six ways to move -/
def movedL (a b c d e f : Int) : List (List Int) :=
  [[b, a, c, e, d, f], [a, c, b, d, f, e], [d, e, c, a, b, f], [a, e, f, d, b, c],
   [a, (b + c + e + f) / 2 - b, (b + c + e + f) / 2 - c, d, (b + c + e + f) / 2 - e, (b + c + e + f) / 2 - f],
   [(c + a + f + d) / 2 - a, b, (c + a + f + d) / 2 - c, (c + a + f + d) / 2 - d, e, (c + a + f + d) / 2 - f]]
def spMoved : Sp := fun vs H Q _ => ∃ (p c : Addr) (ms : List Int) (n : Int) (t : Addr) (a b c' d e g : Int), vs = [.ref p, .ref t] ∧ PenAt H p c ms n ∧ 0 ≤ n ∧ n ≤ 900000 ∧ H t = some (iv [a, b, c', d, e, g]) ∧
  ∀ (r : Addr) (l : List Int) (n' : Int) H', l ∈ movedL a b c' d e g → n ≤ n' → n' ≤ n + 1 → PenAt H' p c ms n' → SameBut p H H' → H' r = some (iv l) → Q (.ref r) H'
abbrev nMoved : List Str := ["_law_pen_here", "_law_sizes_here", "_law_a", "_law_b", "_law_c", "_law_d", "_law_e", "_law_f", "_law_p", "_law_q", "_law_some"]
theorem scMoved : FnScope nMoved ["_law_pen_here", "_law_sizes_here"] (defScope sMoved) := ⟨rfl, rfl, rfl, by decide +kernel, rfl, by decide +kernel, by decide +kernel⟩
theorem ok_moved (F : FnP K "_law_moved" sMoved f fd) (GD : FnOk P w K mg base CX0 1 fD fdD ["_law_pen_here", "_law_many"] spDraw) (bD : L2.Binds K fdD ["_law_pen_here", "_law_many"] []) (kD : PySem.W.keepIn K (.ref fD) = true) (gD : mg "_law_draw" = some (.ref fD)) :
    FnOk P w K mg base CX0 2 f fd ["_law_pen_here", "_law_sizes_here"] spMoved := by
  refine F.ok scMoved (fun vs H Q E h => ?_) (fun cdv A outer s H vs Q E hr h => ?_)
  · obtain ⟨p, c, ms, n, t, _, _, _, _, _, _, rfl, _⟩ := h
    rfl
  · obtain ⟨p, c, ms, n, t, a, b, c', d, e, g, rfl, pen, n0, n9, ht, q⟩ := h
    refine ⟨_, PSs.nox (pss_cons (ps_asg (pv 1) (pg_tup rfl (pgs_cons (pg_name (i := 2) scMoved.nd rfl (.inl rfl)) (pgs_cons (pg_name (i := 3) scMoved.nd rfl (.inl rfl)) (pgs_cons (pg_name (i := 4) scMoved.nd rfl (.inl rfl)) (pgs_cons (pg_name (i := 5) scMoved.nd rfl (.inl rfl)) (pgs_cons (pg_name (i := 6) scMoved.nd rfl (.inl rfl)) (pgs_cons (pg_name (i := 7) scMoved.nd rfl (.inl rfl)) pgs_nil))))))))
      (pss_cons (ps_par (i := 8) (j := 9) rfl scMoved.nd rfl rfl (by decide) rfl rfl (pa_cons (pe_op op_fdiv (pe_op op_add (pe_op op_add (pe_op op_add (pv 3) (pv 4)) (pv 6)) (pv 7)) pe_int) (pa_cons (pe_op op_fdiv (pe_op op_add (pe_op op_add (pe_op op_add (pv 4) (pv 2)) (pv 7)) (pv 5)) pe_int) pa_nil)) (by rfl))
      (C8.pss_cut (ps_set (i := 10) scMoved.nd rfl (.inl rfl) (pe_lst (pa_cons (pe_tup (pa_cons (pv 3) (pa_cons (pv 2) (pa_cons (pv 4) (pa_cons (pv 6) (pa_cons (pv 5) (pa_cons (pv 7) pa_nil))))))) (pa_cons (pe_tup (pa_cons (pv 2) (pa_cons (pv 4) (pa_cons (pv 3) (pa_cons (pv 5) (pa_cons (pv 7) (pa_cons (pv 6) pa_nil)))))))
          (pa_cons (pe_tup (pa_cons (pv 5) (pa_cons (pv 6) (pa_cons (pv 4) (pa_cons (pv 2) (pa_cons (pv 3) (pa_cons (pv 7) pa_nil))))))) (pa_cons (pe_tup (pa_cons (pv 2) (pa_cons (pv 6) (pa_cons (pv 7) (pa_cons (pv 5) (pa_cons (pv 3) (pa_cons (pv 4) pa_nil))))))) pa_nil))))))
      (C8.pss_cut (ps_set (i := 10) scMoved.nd rfl (.inl rfl) (pe_op op_cat (pv 10) (pe_lst (pa_cons (pe_tup (pa_cons (pv 2) (pa_cons (pe_op op_sub (pv 8) (pv 3)) (pa_cons (pe_op op_sub (pv 8) (pv 4)) (pa_cons (pv 5) (pa_cons (pe_op op_sub (pv 8) (pv 6)) (pa_cons (pe_op op_sub (pv 8) (pv 7)) pa_nil)))))))
          (pa_cons (pe_tup (pa_cons (pe_op op_sub (pv 9) (pv 2)) (pa_cons (pv 3) (pa_cons (pe_op op_sub (pv 9) (pv 4)) (pa_cons (pe_op op_sub (pv 9) (pv 5)) (pa_cons (pv 6) (pa_cons (pe_op op_sub (pv 9) (pv 7)) pa_nil))))))) pa_nil)))))
      (pss_one (ps_ret (pe_ix ix_list (pv 10) (pe_call GD hr (by rfl) gD kD bD .nil pass0 (pa_cons (pv 0) (pa_cons pe_int pa_nil))) (fun _ _ => rfl)))))))), ?_⟩
    refine ⟨_, rfl, t, _, rfl, SqT.of ht, rfl, _, _, rfl, _, _, rfl, _, _, rfl, _, _, rfl, _, _, rfl, _, _, rfl, rfl, ?_⟩
    refine ⟨_, rfl, _, rfl, b, c', rfl, rfl, _, rfl, _, e, rfl, rfl, _, rfl, _, g, rfl, rfl, _, 2, rfl, rfl, ⟨by decide, by decide⟩, ?_⟩
    refine ⟨_, rfl, _, rfl, c', a, rfl, rfl, _, rfl, _, g, rfl, rfl, _, rfl, _, d, rfl, rfl, _, 2, rfl, rfl, ⟨by decide, by decide⟩, _, _, rfl, ?_⟩
    obtain ⟨P1, eP⟩ : ∃ x : Int, (b + c' + e + g) / 2 = x := ⟨_, rfl⟩
    obtain ⟨Q1, eQ⟩ : ∃ x : Int, (c' + a + g + d) / 2 = x := ⟨_, rfl⟩
    dsimp only
    rw [eP, eQ]
    -- the first four
    refine ⟨fun σ H' => ∃ (l t1 t2 t3 t4 : Addr), σ = [some (.ref p), some (.ref t), some (.int a), some (.int b), some (.int c'), some (.int d), some (.int e), some (.int g), some (.int P1), some (.int Q1), some (.ref l)] ∧ Same H H' ∧ H' l = some (.lst [.ref t1, .ref t2, .ref t3, .ref t4]) ∧
      H' t1 = some (iv [b, a, c', e, d, g]) ∧ H' t2 = some (iv [a, c', b, d, g, e]) ∧ H' t3 = some (iv [d, e, c', a, b, g]) ∧ H' t4 = some (iv [a, e, g, d, b, c']), ?_, fun σ H1 hM => ?_⟩
    · refine ⟨_, rfl, _, rfl, _, rfl, _, rfl, _, rfl, _, rfl, by show 6 ≤ sizeLine; decide, fun t1 h1 => ?_⟩
      refine ⟨_, rfl, _, rfl, _, rfl, _, rfl, _, rfl, _, rfl, by show 6 ≤ sizeLine; decide, fun t2 h2 => ?_⟩
      refine ⟨_, rfl, _, rfl, _, rfl, _, rfl, _, rfl, _, rfl, by show 6 ≤ sizeLine; decide, fun t3 h3 => ?_⟩
      refine ⟨_, rfl, _, rfl, _, rfl, _, rfl, _, rfl, _, rfl, by show 6 ≤ sizeLine; decide, fun t4 h4 => ?_⟩
      refine ⟨by show 4 ≤ sizeLine; decide, fun l hl => ?_⟩
      have s1 := same_upd (o := iv [b, a, c', e, d, g]) h1
      have s2 := same_upd (o := iv [a, c', b, d, g, e]) h2
      have s3 := same_upd (o := iv [d, e, c', a, b, g]) h3
      have s4 := same_upd (o := iv [a, e, g, d, b, c']) h4
      have s5 := same_upd (o := .lst [.ref t1, .ref t2, .ref t3, .ref t4]) hl
      have s45 := s4.trans s5
      have s35 := s3.trans s45
      have s25 := s2.trans s35
      exact ⟨l, t1, t2, t3, t4, rfl, s1.trans s25, upd_same, s25 _ _ upd_same, s35 _ _ upd_same, s45 _ _ upd_same, s5 _ _ upd_same⟩
    obtain ⟨l, t1, t2, t3, t4, rfl, sm1, hl, k1, k2, k3, k4⟩ := hM
    -- the other two
    refine ⟨fun σ H' => ∃ (l t5 t6 : Addr), σ = [some (.ref p), some (.ref t), some (.int a), some (.int b), some (.int c'), some (.int d), some (.int e), some (.int g), some (.int P1), some (.int Q1), some (.ref l)] ∧ Same H1 H' ∧ H1 l = none ∧ H' l = some (.lst [.ref t1, .ref t2, .ref t3, .ref t4, .ref t5, .ref t6]) ∧
      H' t5 = some (iv [a, P1 - b, P1 - c', d, P1 - e, P1 - g]) ∧ H' t6 = some (iv [Q1 - a, b, Q1 - c', Q1 - d, e, Q1 - g]), ?_, fun σ H2 hM => ?_⟩
    · refine ⟨_, rfl, _, rfl, _, rfl, _, rfl, P1, b, rfl, rfl, _, rfl, _, rfl, P1, c', rfl, rfl, _, rfl, _, rfl, _, rfl, P1, e, rfl, rfl, _, rfl, _, rfl, P1, g, rfl, rfl, by show 6 ≤ sizeLine; decide, fun t5 h5 => ?_⟩
      refine ⟨_, rfl, _, rfl, Q1, a, rfl, rfl, _, rfl, _, rfl, _, rfl, Q1, c', rfl, rfl, _, rfl, _, rfl, Q1, d, rfl, rfl, _, rfl, _, rfl, _, rfl, Q1, g, rfl, rfl, by show 6 ≤ sizeLine; decide, fun t6 h6 => ?_⟩
      refine ⟨by show 2 ≤ sizeLine; decide, fun l2 hl2 => ?_⟩
      have s5 := same_upd (o := iv [a, P1 - b, P1 - c', d, P1 - e, P1 - g]) h5
      have s6 := same_upd (o := iv [Q1 - a, b, Q1 - c', Q1 - d, e, Q1 - g]) h6
      have s7 := same_upd (o := .lst [.ref t5, .ref t6]) hl2
      have s57 := (s5.trans s6).trans s7
      refine ⟨l, l2, _, _, rfl, rfl, s57 _ _ hl, upd_same, by show 4 + 2 ≤ sizeLine; decide, fun l3 hl3 => ?_⟩
      have s8 := same_upd (o := .lst [.ref t1, .ref t2, .ref t3, .ref t4, .ref t5, .ref t6]) hl3
      exact ⟨l3, t5, t6, rfl, s57.trans s8, s57.free hl3, upd_same, ((s6.trans s7).trans s8) _ _ upd_same, (s7.trans s8) _ _ upd_same⟩
    obtain ⟨l6, t5, t6, rfl, sm2, hl6, hl, k5, k6⟩ := hM
    have sm := sm1.trans sm2
    replace k1 := sm2 _ _ k1
    replace k2 := sm2 _ _ k2
    replace k3 := sm2 _ _ k3
    replace k4 := sm2 _ _ k4
    have hne := PenAt.ne (pen.same sm1) hl6
    have hnt : ∀ {u : Addr} {xs : List Int}, H2 u = some (iv xs) → u ≠ p := fun h z => by
      obtain ⟨lf, h1, _⟩ := pen.same sm
      rw [z, h1] at h
      cases h
    refine ⟨_, rfl, _, rfl, p, c, ms, n, 6, rfl, pen.same sm, n0, by omega, by decide, by decide, fun dd n' G dd0 dd1 a0 a1 pg sb => ?_⟩
    have six : ∀ (i : Nat) (u : Addr) (xs : List Int), ([.ref t1, .ref t2, .ref t3, .ref t4, .ref t5, .ref t6] : List V)[i]? = some (.ref u) → dd = (i : Int) → H2 u = some (iv xs) → xs ∈ movedL a b c' d e g → tRet (tC (.ref u)) { nx := fun _ H' => Q .non H', rt := Q } [] G := fun i u xs _ _ hu hx =>
      q u xs n' G hx (by omega) (by omega) pg (SameBut.trans (Same.but sm) sb) (sb _ _ (hnt hu) hu)
    have hc : dd = 0 ∨ dd = 1 ∨ dd = 2 ∨ dd = 3 ∨ dd = 4 ∨ dd = 5 := by omega
    have hlG := sb _ _ hne hl
    rcases hc with rfl | rfl | rfl | rfl | rfl | rfl
    · exact ⟨l6, _, 0, _, rfl, rfl, SqL.of hlG, atI_nat (j := 0) rfl, six 0 t1 _ rfl rfl k1 (by simp [movedL])⟩
    · exact ⟨l6, _, 1, _, rfl, rfl, SqL.of hlG, atI_nat (j := 1) rfl, six 1 t2 _ rfl rfl k2 (by simp [movedL])⟩
    · exact ⟨l6, _, 2, _, rfl, rfl, SqL.of hlG, atI_nat (j := 2) rfl, six 2 t3 _ rfl rfl k3 (by simp [movedL])⟩
    · exact ⟨l6, _, 3, _, rfl, rfl, SqL.of hlG, atI_nat (j := 3) rfl, six 3 t4 _ rfl rfl k4 (by simp [movedL])⟩
    · exact ⟨l6, _, 4, _, rfl, rfl, SqL.of hlG, atI_nat (j := 4) rfl, six 4 t5 _ rfl rfl k5 (by simp [movedL, eP])⟩
    · exact ⟨l6, _, 5, _, rfl, rfl, SqL.of hlG, atI_nat (j := 5) rfl, six 5 t6 _ rfl rfl k6 (by simp [movedL, eQ])⟩
end
end TC
namespace TC
open PySem PySem.Spec PyProof.Rows L2 TCA TCX
theorem third_ok {a b h d : Int} (a0 : 0 ≤ a) (a1 : a ≤ h) (b0 : 0 ≤ b) (b1 : b ≤ h) (hd : d ∈ thirdL a b h) : 0 ≤ d ∧ d ≤ h ∧ canJ a b d = true := by
  unfold thirdL at hd
  rw [if_neg (by split <;> omega), List.append_nil, fitL_mem] at hd
  rw [← fits_can]
  exact ⟨hd.1, by omega, hd.2.2⟩
def dL (b f e c : Int) (k : Nat) : List Int := ((List.range k).map fun i => (0 : Int) + (i : Nat)).filter fun d => fitsB d b f && fitsB d e c
theorem dL_succ (b f e c : Int) (k : Nat) : dL b f e c (k + 1) = dL b f e c k ++ (if (fitsB (0 + (k : Nat)) b f && fitsB (0 + (k : Nat)) e c) = true then [0 + ((k : Nat) : Int)] else []) := by
  unfold dL
  rw [List.range_succ, List.map_append, List.filter_append]
  congr 1
  simp only [List.map_cons, List.map_nil, List.filter_cons, List.filter_nil]
theorem dL_len (b f e c : Int) (k : Nat) : (dL b f e c k).length ≤ k := by
  unfold dL
  refine Nat.le_trans (List.length_filter_le _ _) ?_
  rw [List.length_map, List.length_range]
  exact Nat.le_refl _
theorem dL_mem {b f e c x : Int} {k : Nat} (h : x ∈ dL b f e c k) : 0 ≤ x ∧ x < k := by
  unfold dL at h
  rw [List.mem_filter, List.mem_map] at h
  obtain ⟨⟨i, hi, rfl⟩, _⟩ := h
  have := List.mem_range.mp hi
  omega
theorem ints_eqv_nil (L : List Int) : PyData.eqv (.list (dInts L)) (.list []) = decide (L = []) := ints_eqv L []
theorem ints_shaped (L : List Int) : SeqAt.shaped (.list (dInts L)) = true := by
  obtain ⟨a1, a2⟩ := ints_lay L
  show (PyData.canLayAll0 (dInts L) && decide (PyData.depthAll (dInts L) + 1 ≤ 64)) = true
  rw [a1, decide_eq_true (by omega)]
  rfl
theorem pickI (vs : List Int) {d : Int} (h0 : 0 ≤ d) (h1 : d < vs.length) : ∃ v, v ∈ vs ∧ atI (vs.map V.int) d = some (.int v) := by
  have hk : d.toNat < vs.length := by omega
  refine ⟨vs[d.toNat], List.getElem_mem hk, ?_⟩
  have z := atI_nat (xs := vs.map V.int) (j := d.toNat) (v := .int vs[d.toNat]) (by rw [List.getElem?_map]; simp [hk])
  have e : ((d.toNat : Nat) : Int) = d := by omega
  rw [e] at z
  exact z
section
variable {P : Program} {w : World} {K : PySem.W.Frag} {mg : Str → Option Value} {base : Heap} {f fD fT fF fZ : Addr} {fd fdD fdT fdF fdZ : FuncData}
/-! ### _law_six_sizes -/
def In (h : Int) (l : List Int) : Prop := ∀ x ∈ l, 0 ≤ x ∧ x ≤ h
def spSix : Sp := fun vs H Q _ => ∃ (p c : Addr) (ms : List Int) (n h : Int), vs = [.ref p, .int h] ∧ PenAt H p c ms n ∧ 0 ≤ n ∧ n ≤ 700000 ∧ 0 ≤ h ∧ h ≤ 100 ∧
  ∀ (r : Addr) (a b c' d e g n' : Int) H', In h [a, b, c', d, e, g] → canJ a b c' = true → n ≤ n' → n' ≤ n + 6 → PenAt H' p c ms n' → SameBut p H H' → H' r = some (iv [a, b, c', d, e, g]) → Q (.ref r) H'
abbrev nSix : List Str := ["_law_pen_here", "_law_high", "_law_a", "_law_b", "_law_c", "_law_f", "_law_e", "_law_some", "_law_d"]
theorem scSix : FnScope nSix ["_law_pen_here", "_law_high"] (defScope sSix) := ⟨rfl, rfl, rfl, by decide +kernel, rfl, by decide +kernel, by decide +kernel⟩
theorem ok_six (F : FnP K "_law_six_sizes" sSix f fd) (GD : FnOk P w K mg base CX0 1 fD fdD ["_law_pen_here", "_law_many"] spDraw) (bD : L2.Binds K fdD ["_law_pen_here", "_law_many"] []) (kD : PySem.W.keepIn K (.ref fD) = true) (gD : mg "_law_draw" = some (.ref fD))
    (GT : FnOk P w K mg base CX0 2 fT fdT ["_law_pen_here", "_law_a", "_law_b", "_law_high"] spThird) (bT : L2.Binds K fdT ["_law_pen_here", "_law_a", "_law_b", "_law_high"] []) (kT : PySem.W.keepIn K (.ref fT) = true) (gT : mg "_law_third" = some (.ref fT))
    (GF : FnOk P w K mg base CX0 1 fF fdF ["_law_a", "_law_b", "_law_c"] spFits) (bF : L2.Binds K fdF ["_law_a", "_law_b", "_law_c"] []) (kF : PySem.W.keepIn K (.ref fF) = true) (gF : mg "_law_fits" = some (.ref fF))
    (GZ : FnOk P w K mg base CX0 3 fZ fdZ ["_law_pen_here", "_law_high"] spSizesL) (bZ : L2.Binds K fdZ ["_law_pen_here", "_law_high"] []) (kZ : PySem.W.keepIn K (.ref fZ) = true) (gZ : mg "_law_sizes" = some (.ref fZ)) (gr : mg "range" = none) (gl : mg "len" = none) :
    FnOk P w K mg base CX0 4 f fd ["_law_pen_here", "_law_high"] spSix := by
  refine F.ok scSix (fun vs H Q E h => ?_) (fun cdv A outer s H vs Q E hr h => ?_)
  · obtain ⟨p, c, ms, n, h, rfl, _⟩ := h
    rfl
  · obtain ⟨p, c, ms, n, h, rfl, pen, n0, n8, h0, h1, q⟩ := h
    have hr1 := hr.mono (j := 1) (by decide)
    have hr2 := hr.mono (j := 2) (by decide)
    refine ⟨_, PSs.nox (pss_cons (ps_asg (pe_call GZ hr (by rfl) gZ kZ bZ .nil pass0 (pa_cons (pv 0) (pa_cons (pv 1) pa_nil))) (pg_tup rfl (pgs_cons (pg_name (i := 2) scSix.nd rfl (.inl rfl)) (pgs_cons (pg_name (i := 3) scSix.nd rfl (.inr rfl)) (pgs_cons (pg_name (i := 4) scSix.nd rfl (.inr rfl)) pgs_nil)))))
      (pss_cons (ps_set (i := 5) scSix.nd rfl (.inr rfl) (pe_call GD hr1 (by rfl) gD kD bD .nil pass0 (pa_cons (pv 0) (pa_cons (pe_op op_add (pv 1) pe_int) pa_nil))))
      (pss_cons (ps_set (i := 6) scSix.nd rfl (.inr rfl) (pe_call GT hr2 (by rfl) gT kT bT .nil pass0 (pa_cons (pv 0) (pa_cons (pv 2) (pa_cons (pv 5) (pa_cons (pv 1) pa_nil))))))
      (C8.pss_cut (ps_setLc (i := 7) (own := [("_law_d", 8)]) (g := gName 8) (tt := tAnd (tB (tCall spFits [] E0 (tCons (tVar 8) (tCons (tVar 3) (tCons (tVar 5) tNil))))) (tB (tCall spFits [] E0 (tCons (tVar 8) (tCons (tVar 6) (tCons (tVar 4) tNil)))))) (te := tVar 8) (by rfl) scSix.nd rfl rfl (sw_true rfl rfl rfl (by decide +kernel)) (pi_range1 (by rfl) gr (pa_cons (pe_op op_add (pv 1) pe_int) pa_nil))
          (blkOk_by (N := nSix) (sc := defScope sSix) (by decide +kernel)) (fun _ _ _ _ _ => pg_name (i := 8) scSix.nd rfl (.inl rfl)) (fun _ _ _ _ _ => pts_one (PW.pt (pw_and (pt_val (pe_call GF hr1 (by rfl) gF kF bF .nil pass0 (pa_cons (pv 8) (pa_cons (pv 3) (pa_cons (pv 5) pa_nil))))) (pw_and1 (pt_val (pe_call GF hr1 (by rfl) gF kF bF .nil pass0 (pa_cons (pv 8) (pa_cons (pv 6) (pa_cons (pv 4) pa_nil))))))))) (fun _ _ _ _ _ => pv 8))
      (pss_cons (ps_set (i := 8) scSix.nd rfl (.inl rfl) (pe_ifExp (pt_cmpR (op_neD hr.units) (pv 7) (pe_lst pa_nil) (nomark _)) (pe_ix ix_list (pv 7) (pe_call GD hr1 (by rfl) gD kD bD .nil pass0 (pa_cons (pv 0) (pa_cons (pe_callB call_len_seq (by rfl) gl PySem.boot_len (pa_cons (pv 7) pa_nil)) pa_nil))) (fun _ _ => rfl)) (pe_call GD hr1 (by rfl) gD kD bD .nil pass0 (pa_cons (pv 0) (pa_cons (pe_op op_add (pv 1) pe_int) pa_nil)))))
      (pss_one (ps_ret (pe_tup (pa_cons (pv 2) (pa_cons (pv 3) (pa_cons (pv 4) (pa_cons (pv 8) (pa_cons (pv 6) (pa_cons (pv 5) pa_nil))))))))))))))  , ?_⟩
    have big : h + 1 < 2 ^ 1000 := Int.lt_of_lt_of_le (show h + 1 < 1000 by omega) (by decide +kernel)
    refine ⟨_, rfl, _, rfl, p, c, ms, n, h, rfl, pen, n0, by omega, h0, h1, fun r a b d n1 H1 a0 a1 b0 b1 hd e0 e1 p1 s1 hr1' => ?_⟩
    obtain ⟨d0, d1, hj⟩ := third_ok a0 a1 b0 b1 hd
    refine ⟨r, _, rfl, SqT.of hr1', rfl, _, _, rfl, _, _, rfl, _, _, rfl, rfl, ?_⟩
    refine ⟨_, rfl, _, rfl, h, 1, rfl, rfl, p, c, ms, n1, h + 1, rfl, p1, by omega, by omega, by omega, big, fun g n2 H2 g0 g1 e2 e3 p2 s2 => ?_⟩
    refine ⟨_, rfl, _, rfl, _, rfl, _, rfl, p, c, ms, n2, a, g, h, rfl, p2, by omega, by omega, a0, g0, h0, by omega, fun e n3 H3 he e4 e5 p3 s3 => ?_⟩
    obtain ⟨ee0, ee1, _⟩ := third_ok a0 a1 g0 (by omega) he
    refine ⟨fun σ H' => ∃ D, σ = [some (.ref p), some (.int h), some (.int a), some (.int b), some (.int d), some (.int g), some (.int e), some (.ref D), none] ∧ Same H3 H' ∧ H3 D = none ∧ H' D = some (.lst ((dL b g e d (h + 1).toNat).map V.int)), ?_, fun σ H4 hM => ?_⟩
    · refine ⟨_, rfl, h, 1, rfl, rfl, h + 1, rfl, by omega, by omega, fun D hD => lc_range (lo := 0) (n := (h + 1).toNat) (fun i H' => Same H3 H' ∧ H' D = some (.lst ((dL b g e d i).map V.int))) ⟨same_upd hD, upd_same⟩ (fun i H' hi hP => ?_) (fun H' hP => ?_)⟩
      · obtain ⟨sm, hd⟩ := hP
        refine ⟨rfl, ?_⟩
        refine ⟨_, rfl, _, rfl, _, rfl, _, b, g, rfl, _, rfl, ?_⟩
        refine iteB (fun z1 => ?_) fun z1 => ?_
        · refine ⟨_, rfl, _, rfl, _, rfl, _, e, d, rfl, _, rfl, ?_⟩
          refine iteB (fun z2 => ?_) fun z2 => ?_
          · refine ⟨_, rfl, _, hd, ?_, same_at sm hD, ?_⟩
            · have := dL_len b g e d i
              rw [List.length_map, sizeLine_eq]
              omega
            · rw [upd_same, dL_succ, if_pos (by rw [z1, z2]; rfl), List.map_append]
              rfl
          · refine ⟨sm, ?_⟩
            rw [hd, dL_succ, if_neg (by rw [z1, z2]; exact Bool.false_ne_true), List.append_nil]
        · refine ⟨sm, ?_⟩
          rw [hd, dL_succ, if_neg (by rw [z1]; exact Bool.false_ne_true), List.append_nil]
      · exact ⟨D, rfl, hP.1, hD, hP.2⟩
    obtain ⟨D, rfl, s4, hDn, hD⟩ := hM
    have p4 := p3.same s4
    have hDp : D ≠ p := PenAt.ne p3 hDn
    have fin : ∀ (x n' : Int) (G : Hp), 0 ≤ x → x ≤ h → n ≤ n' → n' ≤ n + 6 → PenAt G p c ms n' → SameBut p H4 G → ∀ rr, G rr = none → Q (.ref rr) (upd G rr (iv [a, b, d, x, e, g])) := fun x n' G x0 x1 m0 m1 pg sg rr hrr => by
      have s9 := same_upd (o := iv [a, b, d, x, e, g]) hrr
      refine q rr a b d x e g n' _ (fun y hy => ?_) hj m0 m1 (pg.same s9) (SameBut.trans (SameBut.trans (SameBut.trans s1 s2) s3) (SameBut.trans (Same.but s4) (SameBut.trans sg (Same.but s9)))) upd_same
      simp only [List.mem_cons, List.not_mem_nil, or_false] at hy
      rcases hy with rfl | rfl | rfl | rfl | rfl | rfl <;> omega
    refine ⟨_, rfl, by show 0 ≤ sizeLine; decide, fun z hz => ?_⟩
    have s5 := same_upd (o := .lst []) hz
    refine ⟨_, .list [], .lst (SqL.of (s5 _ _ hD)) (dpAll_ints _), .lst (SqL.of upd_same) .nil, ints_shaped _, rfl, _, rfl, ?_⟩
    rw [ints_eqv_nil]
    by_cases hnil : dL b g e d (h + 1).toNat = []
    · refine iteNS hnil ?_
      refine ⟨_, rfl, _, rfl, h, 1, rfl, rfl, p, c, ms, n3, h + 1, rfl, p4.same s5, by omega, by omega, by omega, big, fun x n4 H5 x0 x1 e6 e7 p5 s6 => ?_⟩
      refine ⟨_, rfl, _, rfl, _, rfl, _, rfl, _, rfl, _, rfl, by show 6 ≤ sizeLine; decide, fun rr hrr => ?_⟩
      exact fin x n4 H5 x0 (by omega) (by omega) (by omega) p5 (SameBut.trans (Same.but s5) s6) rr hrr
    · refine iteNT hnil ?_
      have hlen : 0 < (dL b g e d (h + 1).toNat).length := List.length_pos_iff.mpr hnil
      have hl2 := dL_len b g e d (h + 1).toNat
      refine ⟨_, rfl, _, rfl, _, rfl, D, _, rfl, .inl (SqL.of (s5 _ _ hD)), p, c, ms, n3, _, rfl, p4.same s5, by omega, by omega, ?_, ?_, fun x n4 H5 x0 x1 e6 e7 p5 s6 => ?_⟩
      · rw [List.length_map]
        omega
      · rw [List.length_map]
        exact Int.lt_of_lt_of_le (show ((dL b g e d (h + 1).toNat).length : Int) < 1000 by omega) (by decide +kernel)
      rw [List.length_map] at x1
      obtain ⟨v, hv, ev⟩ := pickI (dL b g e d (h + 1).toNat) x0 x1
      obtain ⟨v0, v1⟩ := dL_mem hv
      refine ⟨D, _, x, _, rfl, rfl, SqL.of (s6 _ _ hDp (s5 _ _ hD)), ev, ?_⟩
      refine ⟨_, rfl, _, rfl, _, rfl, _, rfl, _, rfl, _, rfl, by show 6 ≤ sizeLine; decide, fun rr hrr => ?_⟩
      exact fin v n4 H5 v0 (by omega) (by omega) (by omega) p5 (SameBut.trans (Same.but s5) s6) rr hrr
end
end TC
namespace TC
open PySem PySem.Spec PyProof.Rows L2 TCA TCX
theorem canJ_iff {a b c : Int} : canJ a b c = true ↔ (a + b + c) % 2 = 0 ∧ a ≤ b + c ∧ b ≤ a + c ∧ c ≤ a + b := by
  unfold canJ
  by_cases h : (a + b + c) % 2 = 1
  · rw [if_pos h]
    constructor
    · intro z
      cases z
    · intro z
      omega
  · rw [if_neg h]
    simp only [Bool.and_eq_true, decide_eq_true_eq]
    constructor
    · intro z
      omega
    · intro z
      exact ⟨z.2.1, z.2.2.1, z.2.2.2⟩
theorem jn_iff {a b c d e f : Int} : Jn a b c d e f = true ↔ canJ a b c = true ∧ canJ a e f = true ∧ canJ d b f = true ∧ canJ d e c = true := by
  unfold Jn
  simp only [Bool.and_eq_true]
/-- six sizes that fit -/
def V6 (h : Int) (a b c d e f : Int) : Prop := In h [a, b, c, d, e, f] ∧ Jn a b c d e f = true
theorem In.of {h a b c d e f : Int} (z : In h [a, b, c, d, e, f]) : (0 ≤ a ∧ a ≤ h) ∧ (0 ≤ b ∧ b ≤ h) ∧ (0 ≤ c ∧ c ≤ h) ∧ (0 ≤ d ∧ d ≤ h) ∧ (0 ≤ e ∧ e ≤ h) ∧ (0 ≤ f ∧ f ≤ h) :=
  ⟨z a (by simp), z b (by simp), z c (by simp), z d (by simp), z e (by simp), z f (by simp)⟩
theorem In.mk6 {h a b c d e f : Int} (z : (0 ≤ a ∧ a ≤ h) ∧ (0 ≤ b ∧ b ≤ h) ∧ (0 ≤ c ∧ c ≤ h) ∧ (0 ≤ d ∧ d ≤ h) ∧ (0 ≤ e ∧ e ≤ h) ∧ (0 ≤ f ∧ f ≤ h)) : In h [a, b, c, d, e, f] := fun x hx => by
  simp only [List.mem_cons, List.not_mem_nil, or_false] at hx
  obtain ⟨z1, z2, z3, z4, z5, z6⟩ := z
  rcases hx with rfl | rfl | rfl | rfl | rfl | rfl <;> assumption
section
variable {P : Program} {w : World} {K : PySem.W.Frag} {mg : Str → Option Value} {base : Heap} {f fS fA : Addr} {fd fdS fdA : FuncData}
/-! ### _law_good -/
def spGood : Sp := fun vs H Q _ => ∃ (p c : Addr) (ms : List Int) (n h : Int), vs = [.ref p, .int h] ∧ PenAt H p c ms n ∧ 0 ≤ n ∧ n ≤ 600000 ∧ 0 ≤ h ∧ h ≤ 100 ∧
  ∀ (r : Addr) (a b c' d e g n' : Int) H', V6 h a b c' d e g → n ≤ n' → n' ≤ n + 6 → PenAt H' p c ms n' → SameBut p H H' → H' r = some (iv [a, b, c', d, e, g]) → Q (.ref r) H'
abbrev nGood : List Str := ["_law_pen_here", "_law_high", "_law_some", "_law_a", "_law_b", "_law_c", "_law_d", "_law_e", "_law_f"]
theorem scGood : FnScope nGood ["_law_pen_here", "_law_high"] (defScope sGood) := ⟨rfl, rfl, rfl, by decide +kernel, rfl, by decide +kernel, by decide +kernel⟩
theorem pen_tup {H H' : Hp} {p c r : Addr} {ms : List Int} {n : Int} {xs : List V} (pen : PenAt H p c ms n) (h : H r = some (.tup xs)) : r ≠ p := fun z => by
  obtain ⟨l, h1, _⟩ := pen
  rw [z, h1] at h
  cases h
theorem ok_good (F : FnP K "_law_good" sGood f fd) (GS : FnOk P w K mg base CX0 4 fS fdS ["_law_pen_here", "_law_high"] spSix) (bS : L2.Binds K fdS ["_law_pen_here", "_law_high"] []) (kS : PySem.W.keepIn K (.ref fS) = true) (gS : mg "_law_six_sizes" = some (.ref fS))
    (GA : FnOk P w K mg base CX0 2 fA fdA ["_law_sizes_here"] spAllFit) (bA : L2.Binds K fdA ["_law_sizes_here"] []) (kA : PySem.W.keepIn K (.ref fA) = true) (gA : mg "_law_all_fit" = some (.ref fA)) :
    FnOk P w K mg base CX0 5 f fd ["_law_pen_here", "_law_high"] spGood := by
  refine F.ok scGood (fun vs H Q E h => ?_) (fun cdv A outer s H vs Q E hr h => ?_)
  · obtain ⟨p, c, ms, n, h, rfl, _⟩ := h
    rfl
  · obtain ⟨p, c, ms, n, h, rfl, pen, n0, n8, h0, h1, q⟩ := h
    have hr2 := hr.mono (j := 2) (by decide)
    refine ⟨_, PSs.nox (pss_cons (ps_set (i := 2) scGood.nd rfl (.inl rfl) (pe_call GS hr (by rfl) gS kS bS .nil pass0 (pa_cons (pv 0) (pa_cons (pv 1) pa_nil))))
      (pss_cons (ps_asg (pv 2) (pg_tup rfl (pgs_cons (pg_name (i := 3) scGood.nd rfl (.inl rfl)) (pgs_cons (pg_name (i := 4) scGood.nd rfl (.inl rfl)) (pgs_cons (pg_name (i := 5) scGood.nd rfl (.inl rfl)) (pgs_cons (pg_name (i := 6) scGood.nd rfl (.inl rfl)) (pgs_cons (pg_name (i := 7) scGood.nd rfl (.inl rfl)) (pgs_cons (pg_name (i := 8) scGood.nd rfl (.inl rfl)) pgs_nil))))))))
      (pss_one (ps_ret (pe_ifExp (pt_val (pe_call GA hr2 (by rfl) gA kA bA .nil pass0 (pa_cons (pv 2) pa_nil))) (pv 2) (pe_tup (pa_cons (pv 3) (pa_cons (pv 4) (pa_cons (pv 5) (pa_cons pe_int (pa_cons (pv 5) (pa_cons (pv 4) pa_nil)))))))))))), ?_⟩
    refine ⟨_, rfl, _, rfl, p, c, ms, n, h, rfl, pen, n0, by omega, h0, h1, fun r a b c' d e g n1 H1 hin hj e0 e1 p1 s1 hr1 => ?_⟩
    refine ⟨_, rfl, r, _, rfl, SqT.of hr1, rfl, _, _, rfl, _, _, rfl, _, _, rfl, _, _, rfl, _, _, rfl, _, _, rfl, rfl, ?_⟩
    refine ⟨_, rfl, r, a, b, c', d, e, g, rfl, hr1, fun H2 s2 => ⟨_, rfl, iteB (fun z => ?_) fun z => ?_⟩⟩
    · exact ⟨_, rfl, q r a b c' d e g n1 H2 ⟨hin, z⟩ (by omega) (by omega) (p1.same s2) (SameBut.trans s1 (Same.but s2)) (s2 _ _ hr1)⟩
    · refine ⟨_, rfl, _, rfl, _, rfl, _, rfl, _, rfl, by show 6 ≤ sizeLine; decide, fun t ht => ?_⟩
      have s3 := same_upd (o := iv [a, b, c', 0, c', b]) ht
      have hi := hin.of
      rw [canJ_iff] at hj
      refine q t a b c' 0 c' b n1 _ ⟨In.mk6 ?_, ?_⟩ (by omega) (by omega) (p1.same (s2.trans s3)) (SameBut.trans s1 (Same.but (s2.trans s3))) upd_same
      · exact ⟨hi.1, hi.2.1, hi.2.2.1, ⟨Int.le_refl _, h0⟩, hi.2.2.1, hi.2.1⟩
      · rw [jn_iff, canJ_iff, canJ_iff, canJ_iff, canJ_iff]
        omega
end
end TC
namespace TC
open PySem PySem.Spec PyProof.Rows L2 TCA TCX
section
variable {P : Program} {w : World} {K : PySem.W.Frag} {mg : Str → Option Value} {base : Heap} {f fD fG fM fA : Addr} {fd fdD fdG fdM fdA : FuncData}
/-! ### _law_other -/
def spOther : Sp := fun vs H Q _ => ∃ (p c : Addr) (ms : List Int) (n h : Int) (t : Addr) (a b c' d e g : Int), vs = [.ref p, .ref t, .int h] ∧ PenAt H p c ms n ∧ 0 ≤ n ∧ n ≤ 500000 ∧ 0 ≤ h ∧ h ≤ 40 ∧ H t = some (iv [a, b, c', d, e, g]) ∧ V6 40 a b c' d e g ∧
  ∀ (r : Addr) (a b c' d e g n' : Int) H', V6 40 a b c' d e g → n ≤ n' → n' ≤ n + 20 → PenAt H' p c ms n' → SameBut p H H' → H' r = some (iv [a, b, c', d, e, g]) → Q (.ref r) H'
abbrev nOther : List Str := ["_law_pen_here", "_law_sizes_here", "_law_high", "_law_kind", "_law_found", "_law_again"]
theorem scOther : FnScope nOther ["_law_pen_here", "_law_sizes_here", "_law_high"] (defScope sOther) := ⟨rfl, rfl, rfl, by decide +kernel, rfl, by decide +kernel, by decide +kernel⟩
theorem ok_other (F : FnP K "_law_other" sOther f fd) (GD : FnOk P w K mg base CX0 1 fD fdD ["_law_pen_here", "_law_many"] spDraw) (bD : L2.Binds K fdD ["_law_pen_here", "_law_many"] []) (kD : PySem.W.keepIn K (.ref fD) = true) (gD : mg "_law_draw" = some (.ref fD))
    (GG : FnOk P w K mg base CX0 5 fG fdG ["_law_pen_here", "_law_high"] spGood) (bG : L2.Binds K fdG ["_law_pen_here", "_law_high"] []) (kG : PySem.W.keepIn K (.ref fG) = true) (gG : mg "_law_good" = some (.ref fG))
    (GM : FnOk P w K mg base CX0 2 fM fdM ["_law_pen_here", "_law_sizes_here"] spMoved) (bM : L2.Binds K fdM ["_law_pen_here", "_law_sizes_here"] []) (kM : PySem.W.keepIn K (.ref fM) = true) (gM : mg "_law_moved" = some (.ref fM))
    (GA : FnOk P w K mg base CX0 2 fA fdA ["_law_sizes_here"] spAllFit) (bA : L2.Binds K fdA ["_law_sizes_here"] []) (kA : PySem.W.keepIn K (.ref fA) = true) (gA : mg "_law_all_fit" = some (.ref fA)) (gr : mg "range" = none) (gi : mg "int" = none) (gx : mg "max" = none) :
    FnOk P w K mg base CX0 6 f fd ["_law_pen_here", "_law_sizes_here", "_law_high"] spOther := by
  refine F.ok scOther (fun vs H Q E h => ?_) (fun cdv A outer s H vs Q E hr h => ?_)
  · obtain ⟨p, c, ms, n, h, t, _, _, _, _, _, _, rfl, _⟩ := h
    rfl
  · obtain ⟨p, c, ms, n, h, t, a, b, c', d, e, g, rfl, pen, n0, n8, h0, h1, ht, hv, q⟩ := h
    have hr1 := hr.mono (j := 1) (by decide)
    have hr2 := hr.mono (j := 2) (by decide)
    refine ⟨_, PSs.nox (pss_cons (ps_set (i := 3) scOther.nd rfl (.inl rfl) (pe_call GD hr1 (by rfl) gD kD bD .nil pass0 (pa_cons (pv 0) (pa_cons pe_int pa_nil))))
      (C8.pss_cut (ps_set (i := 4) scOther.nd rfl (.inl rfl) (pe_ifExp (pt_cmpR op_gt (pv 3) pe_int (nomark _)) (pv 1) (pe_call GG hr (by rfl) gG kG bG .nil pass0 (pa_cons (pv 0) (pa_cons (pv 2) pa_nil)))))
      (C8.pss_cut (ps_for PassesOwn.never rfl (pi_range1 (by rfl) gr (pa_cons (pe_op op_mul (pe_ix ix_list (pe_lst (pa_cons pe_int (pa_cons pe_int pa_nil))) (pe_callTy call_int1 (by rfl) gi (by decide +kernel) (pa_cons (pe_cmpR op_gt (pv 3) pe_int (nomark _)) pa_nil)) (fun _ _ => rfl)) (pe_op op_add pe_int (pe_call GD hr1 (by rfl) gD kD bD .nil pass0 (pa_cons (pv 0) (pa_cons pe_int pa_nil))))) pa_nil)) (pg_name (i := 5) scOther.nd rfl (.inl rfl))
        (pss_one (ps_set (i := 4) scOther.nd rfl (.inl rfl) (pe_call GM hr2 (by rfl) gM kM bM .nil pass0 (pa_cons (pv 0) (pa_cons (pv 4) pa_nil))))))
      (C8.pss_cut (ps_if (pt_cmpR op_eq (pv 3) pe_int (nomark _)) (pss_one (ps_set (i := 4) scOther.nd rfl (.inl rfl) (pe_tup (pa_cons (pe_ix ix_tup (pv 4) pe_int (fun _ _ => rfl)) (pa_cons (pe_ix ix_tup (pv 4) pe_int (fun _ _ => rfl)) (pa_cons (pe_ix ix_tup (pv 4) pe_int (fun _ _ => rfl)) (pa_cons (pe_op op_add (pe_ix ix_tup (pv 4) pe_int (fun _ _ => rfl)) pe_int) (pa_cons (pe_ix ix_tup (pv 4) pe_int (fun _ _ => rfl)) (pa_cons (pe_ix ix_tup (pv 4) pe_int (fun _ _ => rfl)) pa_nil))))))))) pss_nil)
      (pss_cons (ps_if (PW.pt (pw_or (pt_cmpR op_gt (pe_callB (cr_maxT rfl) (by rfl) gx (by decide +kernel) (pa_cons (pv 4) pa_nil)) pe_int (nomark _)) (pw_or1 (pt_not (pt_val (pe_call GA hr2 (by rfl) gA kA bA .nil pass0 (pa_cons (pv 4) pa_nil)))))))
        (pss_one (ps_ret (pe_op op_catT (pe_op op_catT (pe_op op_catT (pe_slice sl_tup (pv 1) (po_some pe_int) (po_some pe_int)) (pe_slice sl_tup (pv 1) (po_some pe_int) (po_some pe_int))) (pe_slice sl_tup (pv 1) po_none (po_some pe_int))) (pe_slice sl_tup (pv 1) (po_some pe_int) po_none)))) pss_nil)
      (pss_one (ps_ret (pv 4)))))))), ?_⟩
    refine ⟨_, rfl, p, c, ms, n, 8, rfl, pen, n0, by omega, by decide, by decide, fun k n1 H1 k0 k1 e0 e1 p1 s1 => ?_⟩
    have ht1 := s1 _ _ (pen_tup (H' := H) pen ht) ht
    -- found
    refine ⟨fun σ H' => ∃ (u : Addr) (x1 x2 x3 x4 x5 x6 n' : Int), σ = [some (.ref p), some (.ref t), some (.int h), some (.int k), some (.ref u), none] ∧ H' u = some (iv [x1, x2, x3, x4, x5, x6]) ∧ H' t = some (iv [a, b, c', d, e, g]) ∧ n ≤ n' ∧ n' ≤ n + 8 ∧ PenAt H' p c ms n' ∧ SameBut p H H', ?_, fun σ H2 hM => ?_⟩
    · refine ⟨_, rfl, k, 1, rfl, rfl, _, rfl, ite2 (fun _ => ?_) fun _ => ?_⟩
      · exact ⟨_, rfl, t, a, b, c', d, e, g, n1, rfl, ht1, ht1, by omega, by omega, p1, s1⟩
      · refine ⟨_, rfl, _, rfl, p, c, ms, n1, h, rfl, p1, by omega, by omega, h0, by omega, fun r x1 x2 x3 x4 x5 x6 n2 G _ m0 m1 pg sg hr' => ?_⟩
        exact ⟨r, x1, x2, x3, x4, x5, x6, n2, rfl, hr', sg _ _ (pen_tup (H' := H) p1 ht1) ht1, by omega, by omega, pg, SameBut.trans s1 sg⟩
    obtain ⟨u, x1, x2, x3, x4, x5, x6, n2, rfl, hu, ht2, m0, m1, p2, s2⟩ := hM
    -- moved
    refine ⟨fun σ H' => ∃ (v5 : Option V) (u : Addr) (x1 x2 x3 x4 x5 x6 n' : Int), σ = [some (.ref p), some (.ref t), some (.int h), some (.int k), some (.ref u), v5] ∧ H' u = some (iv [x1, x2, x3, x4, x5, x6]) ∧ H' t = some (iv [a, b, c', d, e, g]) ∧ n ≤ n' ∧ n' ≤ n + 13 ∧ PenAt H' p c ms n' ∧ SameBut p H H', ?_, fun σ H3 hM => ?_⟩
    · refine ⟨by show 2 ≤ sizeLine; decide, fun l hl => ?_⟩
      have s3 := same_upd (o := .lst (([0, 1] : List Int).map V.int)) hl
      refine ⟨_, rfl, k, 1, rfl, rfl, .inr ⟨_, rfl, ?_⟩⟩
      obtain ⟨v, hv, ev⟩ := pickI [0, 1] (d := if decide (k > 1) = true then (1 : Int) else 0) (by split <;> omega) (by show _ < (2 : Int); split <;> omega)
      have v01 : v = 0 ∨ v = 1 := by simpa using hv
      refine ⟨l, _, _, _, rfl, rfl, SqL.of upd_same, ev, _, rfl, p, c, ms, n2, 3, rfl, p2.same s3, by omega, by omega, by decide, by decide, fun dd n3 G dd0 dd1 q0 q1 pg sg => ?_⟩
      have mv : 0 ≤ v * (1 + dd) ∧ v * (1 + dd) ≤ 3 := by
        rcases v01 with rfl | rfl
        · rw [Int.zero_mul]
          omega
        · rw [Int.one_mul]
          omega
      have sgt := SameBut.trans (Same.but s3) sg
      refine ⟨1, dd, rfl, rfl, v, 1 + dd, rfl, rfl, .inl ⟨by omega, by omega⟩, v * (1 + dd), rfl, by omega, by omega, ?_⟩
      refine for_range (n := (v * (1 + dd)).toNat) (fun i σ H' => ∃ (v5 : Option V) (u : Addr) (x1 x2 x3 x4 x5 x6 n' : Int), σ = [some (.ref p), some (.ref t), some (.int h), some (.int k), some (.ref u), v5] ∧ H' u = some (iv [x1, x2, x3, x4, x5, x6]) ∧ H' t = some (iv [a, b, c', d, e, g]) ∧ n ≤ n' ∧ n' ≤ n + 9 + i ∧ PenAt H' p c ms n' ∧ SameBut p H H')
        ⟨none, u, x1, x2, x3, x4, x5, x6, n3, rfl, sgt _ _ (pen_tup (H' := H) p2 hu) hu, sgt _ _ (pen_tup (H' := H) p2 ht2) ht2, by omega, by omega, pg, SameBut.trans s2 sgt⟩ (fun i σ H' hi hP => ?_) (fun σ H' hP => ?_)
      · obtain ⟨v5, u, x1, x2, x3, x4, x5, x6, n4, rfl, hu, ht4, r0, r1, p4, s4⟩ := hP
        have i3 : i < 3 := by omega
        refine ⟨_, rfl, _, rfl, p, c, ms, n4, u, x1, x2, x3, x4, x5, x6, rfl, p4, by omega, by omega, hu, fun r l n5 G5 hl5 t0 t1 p5 s5 hr5 => ?_⟩
        obtain ⟨y1, y2, y3, y4, y5, y6, rfl⟩ : ∃ y1 y2 y3 y4 y5 y6, l = [y1, y2, y3, y4, y5, y6] := by
          simp only [movedL, List.mem_cons, List.not_mem_nil, or_false] at hl5
          rcases hl5 with rfl | rfl | rfl | rfl | rfl | rfl <;> exact ⟨_, _, _, _, _, _, rfl⟩
        exact ⟨_, r, y1, y2, y3, y4, y5, y6, n5, rfl, hr5, s5 _ _ (pen_tup (H' := H) p4 ht4) ht4, by omega, by omega, p5, SameBut.trans s4 s5⟩
      · obtain ⟨v5, u, x1, x2, x3, x4, x5, x6, n4, rfl, hu, ht4, r0, r1, p4, s4⟩ := hP
        exact ⟨v5, u, x1, x2, x3, x4, x5, x6, n4, rfl, hu, ht4, r0, by omega, p4, s4⟩
    obtain ⟨v5, u, x1, x2, x3, x4, x5, x6, n3, rfl, hu, ht3, m2, m3, p3, s3⟩ := hM
    -- one of them 2 more
    refine ⟨fun σ H' => ∃ (v5 : Option V) (u : Addr) (x1 x2 x3 x4 x5 x6 : Int), σ = [some (.ref p), some (.ref t), some (.int h), some (.int k), some (.ref u), v5] ∧ H' u = some (iv [x1, x2, x3, x4, x5, x6]) ∧ H' t = some (iv [a, b, c', d, e, g]) ∧ PenAt H' p c ms n3 ∧ SameBut p H H', ?_, fun σ H4 hM => ?_⟩
    · refine ⟨_, rfl, rfl, _, rfl, ite2 (fun _ => ?_) fun _ => ?_⟩
      · have gx : ∀ (j : Nat) (y : V), (([x1, x2, x3, x4, x5, x6] : List Int).map V.int)[j]? = some y → atI (([x1, x2, x3, x4, x5, x6] : List Int).map V.int) (j : Int) = some y := fun j y hy => atI_nat hy
        refine ⟨_, rfl, u, _, 0, _, rfl, rfl, SqT.of hu, gx 0 _ rfl, _, rfl, u, _, 1, _, rfl, rfl, SqT.of hu, gx 1 _ rfl, _, rfl, u, _, 2, _, rfl, rfl, SqT.of hu, gx 2 _ rfl, _, rfl, u, _, 3, _, rfl, rfl, SqT.of hu, gx 3 _ rfl, x4, 2, rfl, rfl, _, rfl, u, _, 4, _, rfl, rfl, SqT.of hu, gx 4 _ rfl, _, rfl, u, _, 5, _, rfl, rfl, SqT.of hu, gx 5 _ rfl, by show 6 ≤ sizeLine; decide, fun r hr' => ?_⟩
        have s4 := same_upd (o := iv [x1, x2, x3, x4 + 2, x5, x6]) hr'
        exact ⟨v5, r, x1, x2, x3, x4 + 2, x5, x6, rfl, upd_same, s4 _ _ ht3, p3.same s4, SameBut.trans s3 (Same.but s4)⟩
      · exact ⟨v5, u, x1, x2, x3, x4, x5, x6, rfl, hu, ht3, p3, s3⟩
    obtain ⟨v5, u, x1, x2, x3, x4, x5, x6, rfl, hu, ht4, p4, s4⟩ := hM
    -- what is told in its place
    obtain ⟨hin, hj⟩ := hv
    have hi := hin.of
    rw [jn_iff, canJ_iff, canJ_iff, canJ_iff, canJ_iff] at hj
    have other : ∀ (v5 : Option V) (G : Hp), Same H4 G → tRet (tOp (rCatT K) (tOp (rCatT K) (tOp (rCatT K) (tSl (rSlT K) (tVar 1) (tPart (tC (.int 3))) (tPart (tC (.int 5)))) (tSl (rSlT K) (tVar 1) (tPart (tC (.int 2))) (tPart (tC (.int 3))))) (tSl (rSlT K) (tVar 1) tNoPart (tPart (tC (.int 2))))) (tSl (rSlT K) (tVar 1) (tPart (tC (.int 5))) tNoPart)) { nx := fun _ H' => Q .non H', rt := Q } [some (.ref p), some (.ref t), some (.int h), some (.int k), some (.ref u), v5] G := fun v5 G sG => by
      have hG := sG _ _ ht4
      refine ⟨_, rfl, 3, rfl, 5, rfl, t, _, rfl, SqT.of hG, by show ¬(HT.sIx 6 0 (some 3) = 0 ∧ HT.sIx 6 6 (some 5) = 6); decide, fun q1 hq1 => ?_⟩
      have s5 := same_upd (o := iv [d, e]) hq1
      refine ⟨_, rfl, 2, rfl, 3, rfl, t, _, rfl, SqT.of (s5 _ _ hG), by show ¬(HT.sIx 6 0 (some 2) = 0 ∧ HT.sIx 6 6 (some 3) = 6); decide, fun q2 hq2 => ?_⟩
      have s6 := same_upd (o := iv [c']) hq2
      refine ⟨q1, q2, _, _, rfl, rfl, SqT.of (s6 _ _ upd_same), SqT.of upd_same, fun z => (by cases z), by show 2 + 1 ≤ sizeLine; decide, fun z => (by cases z), fun _ q3 hq3 => ?_⟩
      have s7 := same_upd (o := iv [d, e, c']) hq3
      have s57 := (s5.trans s6).trans s7
      refine ⟨_, rfl, 2, rfl, t, _, rfl, SqT.of (s57 _ _ hG), by show ¬(HT.sIx 6 0 none = 0 ∧ HT.sIx 6 6 (some 2) = 6); decide, fun q4 hq4 => ?_⟩
      have s8 := same_upd (o := iv [a, b]) hq4
      refine ⟨q3, q4, _, _, rfl, rfl, SqT.of (s8 _ _ upd_same), SqT.of upd_same, fun z => (by cases z), by show 3 + 2 ≤ sizeLine; decide, fun z => (by cases z), fun _ q5 hq5 => ?_⟩
      have s9 := same_upd (o := iv [d, e, c', a, b]) hq5
      have s59 := (s57.trans s8).trans s9
      refine ⟨_, rfl, 5, rfl, t, _, rfl, SqT.of (s59 _ _ hG), by show ¬(HT.sIx 6 0 (some 5) = 0 ∧ HT.sIx 6 6 none = 6); decide, fun q6 hq6 => ?_⟩
      have s10 := same_upd (o := iv [g]) hq6
      refine ⟨q5, q6, _, _, rfl, rfl, SqT.of (s10 _ _ upd_same), SqT.of upd_same, fun z => (by cases z), by show 5 + 1 ≤ sizeLine; decide, fun z => (by cases z), fun _ q7 hq7 => ?_⟩
      have s11 := same_upd (o := iv [d, e, c', a, b, g]) hq7
      have sAll := sG.trans ((s59.trans s10).trans s11)
      refine q q7 d e c' a b g n3 _ ⟨In.mk6 ⟨hi.2.2.2.1, hi.2.2.2.2.1, hi.2.2.1, hi.1, hi.2.1, hi.2.2.2.2.2⟩, ?_⟩ (by omega) (by omega) (p4.same sAll) (SameBut.trans s4 (Same.but sAll)) upd_same
      rw [jn_iff, canJ_iff, canJ_iff, canJ_iff, canJ_iff]
      omega
    refine ⟨_, rfl, u, [x1, x2, x3, x4, x5, x6], rfl, SqT.of hu, by show 0 < 6; decide, fun mx hmx hle => ?_⟩
    refine ⟨mx, 40, rfl, rfl, _, rfl, ?_⟩
    by_cases hbig : mx > 40
    · exact iteD1 hbig (iteT (other v5 _ (Same.refl _)))
    · refine iteD0 hbig ?_
      refine ⟨_, rfl, u, x1, x2, x3, x4, x5, x6, rfl, hu, fun G sG => ⟨_, rfl, ?_⟩⟩
      cases hjx : Jn x1 x2 x3 x4 x5 x6 with
      | false => exact iteT (other v5 _ sG)
      | true =>
        refine iteF ⟨_, rfl, ?_⟩
        have hj2 := hjx
        rw [jn_iff, canJ_iff, canJ_iff, canJ_iff, canJ_iff] at hj2
        have l1 := hle x1 (by simp)
        have l2 := hle x2 (by simp)
        have l3 := hle x3 (by simp)
        have l4 := hle x4 (by simp)
        have l5 := hle x5 (by simp)
        have l6 := hle x6 (by simp)
        exact q u x1 x2 x3 x4 x5 x6 n3 G ⟨In.mk6 ⟨⟨by omega, by omega⟩, ⟨by omega, by omega⟩, ⟨by omega, by omega⟩, ⟨by omega, by omega⟩, ⟨by omega, by omega⟩, ⟨by omega, by omega⟩⟩, hjx⟩ (by omega) (by omega) (p4.same sG) (SameBut.trans s4 (Same.but sG)) (sG _ _ hu)
end
end TC
namespace TC
open PySem PySem.Spec PyProof.Rows L2 TCA TCX
/-- kinds and tuples stay -/
structure Keep (K : PySem.W.Frag) (H H' : Hp) : Prop where
  ty : ∀ {v : V} {t : Value}, TyX K H v t → TyX K H' v t
  tp : ∀ {a : Addr} {xs : List V}, H a = some (.tup xs) → H' a = some (.tup xs)
theorem Keep.of {K : PySem.W.Frag} {H H' : Hp} (s : Same H H') : Keep K H H' := ⟨fun h => TyX.same h s, fun h => s _ _ h⟩
theorem Keep.trans {K : PySem.W.Frag} {H H1 H2 : Hp} (s : Keep K H H1) (t : Keep K H1 H2) : Keep K H H2 := ⟨fun h => t.ty (s.ty h), fun h => t.tp (s.tp h)⟩
/-- all but a list, which stays a list -/
theorem Keep.but {K : PySem.W.Frag} {H H' : Hp} {l : Addr} {xs ys : List V} (hl : H l = some (.lst xs)) (hl' : H' l = some (.lst ys)) (s : SameBut l H H') : Keep K H H' := by
  have ne : ∀ {b : Addr} {o : HO}, H b = some o → (∀ zs, o ≠ .lst zs) → b ≠ l := fun hb hz e => by
    rw [e, hl] at hb
    exact hz _ (Option.some.inj hb).symm
  refine ⟨fun {v t} h => ?_, fun {a zs} h => s _ _ (ne h (fun _ z => by cases z)) h⟩
  cases h with
  | base b =>
    cases b with
    | non => exact .base .non
    | bl y => exact .base (.bl y)
    | int i => exact .base (.int i)
    | str y => exact .base (.str y)
    | flt y => exact .base (.flt y)
    | @lst a _ e =>
      by_cases z : a = l
      · rw [z]
        exact .base (.lst hl')
      · exact .base (.lst (s _ _ z e))
    | frz e => exact .base (.frz (s _ _ (ne e (fun _ z => by cases z)) e))
    | tup e => exact .base (.tup (s _ _ (ne e (fun _ z => by cases z)) e))
    | dK e => exact .base (.dK (s _ _ (ne e (fun _ z => by cases z)) e))
    | dT e => exact .base (.dT (s _ _ (ne e (fun _ z => by cases z)) e))
    | ins e cl ha hn htk hm => exact .base (.ins (s _ _ (ne e (fun _ z => by cases z)) e) cl ha hn htk hm)
  | byt y => exact .byt y
  | set e => exact .set (s _ _ (ne e (fun _ z => by cases z)) e)
  | kList e c => exact .kList e c
  | kTuple e c => exact .kTuple e c
  | kDict e c => exact .kDict e c
  | fTuple e => exact .fTuple (s _ _ (ne e (fun _ z => by cases z)) e)
  | fDict e => exact .fDict (s _ _ (ne e (fun _ z => by cases z)) e)
theorem Siz.keep {K : PySem.W.Frag} {H H' : Hp} {v : V} {b : Bool} (h : Siz K H v b) (s : Keep K H H') : Siz K H' v b := by
  rcases h with h | ⟨e, t, bi, bb, h1, h2⟩
  · exact .inl h
  · exact .inr ⟨e, t, bi, bb, s.ty h1, h2⟩
theorem paired_keep {K : PySem.W.Frag} {H H' : Hp} (s : Keep K H H') {xs : List V} {bs : List Bool} (h : Paired (Siz K H) xs bs) : Paired (Siz K H') xs bs := by
  induction h with
  | nil => exact .nil
  | cons r _ ih => exact .cons (r.keep s) ih
theorem NoSix.keep {K : PySem.W.Frag} {H H' : Hp} {v : V} (h : NoSix K H v) (s : Keep K H H') : NoSix K H' v := by
  rcases h with ⟨t, h1, h2⟩ | ⟨a, xs, e, h1, h2⟩
  · exact .inl ⟨t, s.ty h1, h2⟩
  · exact .inr ⟨a, xs, e, s.tp h1, h2⟩
/-- what has no form, and the word of its refusal -/
def Bad (K : PySem.W.Frag) (H : Hp) (v : V) (w : Str) : Prop := (w = "triple" ∧ NoSix K H v) ∨ ∃ (t : Addr) (v1 v2 v3 v4 v5 v6 : V) (bs : List Bool), v = .ref t ∧ H t = some (.tup [v1, v2, v3, v4, v5, v6]) ∧ Paired (Siz K H) [v1, v2, v3, v4, v5, v6] bs ∧
  ((bs.all id = false ∧ w = "size") ∨ (bs.all id = true ∧ w = "triple" ∧ ∀ a b c d e g : Int, ([v1, v2, v3, v4, v5, v6] : List V) = ([a, b, c, d, e, g] : List Int).map V.int → Jn a b c d e g = false))
theorem Bad.keep {K : PySem.W.Frag} {H H' : Hp} {v : V} {w : Str} (h : Bad K H v w) (s : Keep K H H') : Bad K H' v w := by
  rcases h with ⟨e, h⟩ | ⟨t, v1, v2, v3, v4, v5, v6, bs, e, ht, hp, h⟩
  · exact .inl ⟨e, h.keep s⟩
  · exact .inr ⟨t, v1, v2, v3, v4, v5, v6, bs, e, s.tp ht, paired_keep s hp, h⟩
def PairB (K : PySem.W.Frag) (H : Hp) (x : V) : Prop := ∃ (r : Addr) (v : V) (w : Str), x = .ref r ∧ H r = some (.tup [v, .str w]) ∧ Bad K H v w
theorem PairB.keep {K : PySem.W.Frag} {H H' : Hp} {x : V} (h : PairB K H x) (s : Keep K H H') : PairB K H' x := by
  obtain ⟨r, v, w, e, h1, h2⟩ := h
  exact ⟨r, v, w, e, s.tp h1, h2.keep s⟩
theorem SameBut.free {p c q : Addr} {H H' : Hp} {ms : List Int} {n : Int} (s : SameBut p H H') (pen : PenAt H' p c ms n) (h : H' q = none) : H q = none := by
  cases e : H q with
  | none => rfl
  | some o =>
    have z := s q o (PenAt.ne pen h) e
    rw [h] at z
    cases z
section
variable {P : Program} {w : World} {K : PySem.W.Frag} {mg : Str → Option Value} {base : Heap} {f fD fO : Addr} {fd fdD fdO : FuncData}
/-! ### _law_wrong -/
def spWrong (K : PySem.W.Frag) : Sp := fun vs H Q _ => ∃ (p c : Addr) (ms : List Int) (n : Int) (t : Addr) (a b c' d e g : Int), vs = [.ref p, .ref t] ∧ PenAt H p c ms n ∧ 0 ≤ n ∧ n ≤ 500000 ∧ H t = some (iv [a, b, c', d, e, g]) ∧ V6 40 a b c' d e g ∧
  ∀ (x : V) (n' : Int) H', PairB K H' x → n ≤ n' → n' ≤ n + 3 → PenAt H' p c ms n' → SameBut p H H' → Q x H'
abbrev nWrong : List Str := ["_law_pen_here", "_law_sizes_here", "_law_at", "_law_some"]
theorem scWrong : FnScope nWrong ["_law_pen_here", "_law_sizes_here"] (defScope sWrong) := ⟨rfl, rfl, rfl, by decide +kernel, rfl, by decide +kernel, by decide +kernel⟩
theorem ok_wrong (F : FnP K "_law_wrong" sWrong f fd) (GD : FnOk P w K mg base CX0 1 fD fdD ["_law_pen_here", "_law_many"] spDraw) (bD : L2.Binds K fdD ["_law_pen_here", "_law_many"] []) (kD : PySem.W.keepIn K (.ref fD) = true) (gD : mg "_law_draw" = some (.ref fD))
    (GO : FnOk P w K mg base CX0 2 fO fdO ["_law_pen_here"] (spOddL K)) (bO : L2.Binds K fdO ["_law_pen_here"] []) (kO : PySem.W.keepIn K (.ref fO) = true) (gO : mg "_law_odd" = some (.ref fO)) (gl : mg "list" = none) (gi : mg "int" = none) :
    FnOk P w K mg base CX0 6 f fd ["_law_pen_here", "_law_sizes_here"] (spWrong K) := by
  refine F.ok scWrong (fun vs H Q E h => ?_) (fun cdv A outer s H vs Q E hr h => ?_)
  · obtain ⟨p, c, ms, n, t, _, _, _, _, _, _, rfl, _⟩ := h
    rfl
  · obtain ⟨p, c, ms, n, t, a, b, c', d, e, g, rfl, pen, n0, n8, ht, hv, q⟩ := h
    have hr1 := hr.mono (j := 1) (by decide)
    have hr2 := hr.mono (j := 2) (by decide)
    refine ⟨_, PSs.nox (pss_cons (ps_set (i := 2) scWrong.nd rfl (.inl rfl) (pe_call GD hr1 (by rfl) gD kD bD .nil pass0 (pa_cons (pv 0) (pa_cons pe_int pa_nil))))
      (C8.pss_cut (ps_set (i := 3) scWrong.nd rfl (.inl rfl) (pe_lst (pa_cons (pe_tup (pa_cons (pe_callTy call_list_of (by rfl) gl (by decide +kernel) (pa_cons (pv 1) pa_nil)) (pa_cons pe_str pa_nil))) (pa_cons (pe_tup (pa_cons (pe_slice sl_tupS (pv 1) po_none (po_some pe_int)) (pa_cons pe_str pa_nil))) (pa_cons (pe_tup (pa_cons (pe_op op_catS (pv 1) (pe_tup (pa_cons pe_int pa_nil))) (pa_cons pe_str pa_nil))) (pa_cons (pe_tup (pa_cons pe_non (pa_cons pe_str pa_nil))) pa_nil))))))
      (C8.pss_cut (ps_expr (pe_bm PySem.F.plainAttrs_list PySem.F.slot_list_append PySem.F.type_list_append mt_append (pv 3) (pa_cons (pe_tup (pa_cons (pe_op op_catS (pe_op op_catS (pe_slice sl_tupS (pv 1) po_none (po_some (pv 2))) (pe_tup (pa_cons (pe_call GO hr2 (by rfl) gO kO bO .nil pass0 (pa_cons (pv 0) pa_nil)) pa_nil))) (pe_slice sl_tupS (pv 1) (po_some (pe_op op_add (pv 2) pe_int)) po_none)) (pa_cons pe_str pa_nil))) pa_nil)))
      (C8.pss_cut (ps_expr (pe_bm PySem.F.plainAttrs_list PySem.F.slot_list_append PySem.F.type_list_append mt_append (pv 3) (pa_cons (pe_tup (pa_cons (pe_op op_catS (pe_op op_catS (pe_slice sl_tupS (pv 1) po_none (po_some (pv 2))) (pe_tup (pa_cons (pe_op op_add (pe_ix ix_tup (pv 1) (pv 2) (fun _ _ => rfl)) (pe_ix ix_list (pe_lst (pa_cons pe_int (pa_cons (pe_un un_neg pe_int) pa_nil))) (pe_callTy call_int1 (by rfl) gi (by decide +kernel) (pa_cons (pe_cmpR op_gt (pe_ix ix_tup (pv 1) (pv 2) (fun _ _ => rfl)) pe_int (nomark _)) pa_nil)) (fun _ _ => rfl))) pa_nil))) (pe_slice sl_tupS (pv 1) (po_some (pe_op op_add (pv 2) pe_int)) po_none)) (pa_cons pe_str pa_nil))) pa_nil)))
      (pss_one (ps_ret (pe_ix ix_list (pe_op op_cat (pv 3) (pe_lst (pa_cons (pe_tup (pa_cons (pe_tup pa_nil) (pa_cons pe_str pa_nil))) (pa_cons (pe_tup (pa_cons pe_str (pa_cons pe_str pa_nil))) pa_nil)))) (pe_call GD hr1 (by rfl) gD kD bD .nil pass0 (pa_cons (pv 0) (pa_cons pe_int pa_nil))) (fun _ _ => rfl)))))))), ?_⟩
    refine ⟨_, rfl, p, c, ms, n, 6, rfl, pen, n0, by omega, by decide, by decide, fun z n1 H1 z0 z1 e0 e1 p1 s1 => ?_⟩
    have ht1 := s1 _ _ (pen_tup (H' := H) pen ht) ht
    have gx : ∀ (j : Nat) (y : V), (([a, b, c', d, e, g] : List Int).map V.int)[j]? = some y → atI (([a, b, c', d, e, g] : List Int).map V.int) (j : Int) = some y := fun j y hy => atI_nat hy
    obtain ⟨k, rfl⟩ : ∃ k : Nat, z = k := ⟨z.toNat, by omega⟩
    have k6 : k < 6 := by omega
    -- the first four
    refine ⟨fun σ H' => ∃ (L : Addr) (xs : List V), σ = [some (.ref p), some (.ref t), some (.int k), some (.ref L)] ∧ H' L = some (.lst xs) ∧ xs.length = 4 ∧ (∀ x ∈ xs, PairB K H' x) ∧ H L = none ∧ PenAt H' p c ms n1 ∧ SameBut p H H', ?_, fun σ H2 hM => ?_⟩
    · refine ⟨_, rfl, t, _, rfl, .inr (SqT.of ht1), fun l1 hl1 => ?_⟩
      have a1 := same_upd (o := .lst (([a, b, c', d, e, g] : List Int).map V.int)) hl1
      refine ⟨by show 2 ≤ sizeLine; decide, fun r1 h1 => ?_⟩
      have a2 := same_upd (o := .tup [.ref l1, .str "triple"]) h1
      refine ⟨_, rfl, 5, rfl, t, _, rfl, (a1.trans a2) _ _ ht1, fun q2 G2 a3 hq2 => ?_⟩
      refine ⟨by show 2 ≤ sizeLine; decide, fun r2 h2 => ?_⟩
      have a4 := same_upd (o := .tup [.ref q2, .str "triple"]) h2
      have a14 := (a1.trans a2).trans (a3.trans a4)
      refine ⟨_, rfl, by show 1 ≤ sizeLine; decide, fun u hu => ?_⟩
      have a5 := same_upd (o := .tup [.int 0]) hu
      refine ⟨t, u, _, _, rfl, rfl, (a14.trans a5) _ _ ht1, upd_same, by show 6 + 1 ≤ sizeLine; decide, fun q3 G3 a6 hq3 => ?_⟩
      refine ⟨by show 2 ≤ sizeLine; decide, fun r3 h3 => ?_⟩
      have a7 := same_upd (o := .tup [.ref q3, .str "triple"]) h3
      refine ⟨by show 2 ≤ sizeLine; decide, fun r4 h4 => ?_⟩
      have a8 := same_upd (o := .tup [.non, .str "triple"]) h4
      refine ⟨by show 4 ≤ sizeLine; decide, fun L hL => ?_⟩
      have a9 := same_upd (o := .lst [.ref r1, .ref r2, .ref r3, .ref r4]) hL
      have a49 : Same _ _ := (a5.trans a6).trans ((a7.trans a8).trans a9)
      have b18 : Same H1 _ := (a14.trans (a5.trans a6)).trans (a7.trans a8)
      have b19 := b18.trans a9
      refine ⟨L, _, rfl, upd_same, rfl, fun x hx => ?_, SameBut.free (SameBut.trans s1 (Same.but b18)) (p1.same b18) hL, p1.same b19, SameBut.trans s1 (Same.but b19)⟩
      simp only [List.mem_cons, List.not_mem_nil, or_false] at hx
      rcases hx with rfl | rfl | rfl | rfl
      · have f1 : Same _ _ := (a3.trans a4).trans a49
        exact ⟨r1, _, _, rfl, f1 _ _ upd_same, .inl ⟨rfl, .inl ⟨_, .base (.lst ((a2.trans f1) _ _ upd_same)), kit_ty (by decide +kernel)⟩⟩⟩
      · exact ⟨r2, _, _, rfl, a49 _ _ upd_same, .inl ⟨rfl, .inr ⟨q2, _, rfl, (a4.trans a49) _ _ hq2, by show 5 ≠ 6; decide⟩⟩⟩
      · have f3 : Same _ _ := a8.trans a9
        exact ⟨r3, _, _, rfl, f3 _ _ upd_same, .inl ⟨rfl, .inr ⟨q3, _, rfl, (a7.trans f3) _ _ hq3, by show 7 ≠ 6; decide⟩⟩⟩
      · exact ⟨r4, _, _, rfl, a9 _ _ upd_same, .inl ⟨rfl, .inl ⟨_, .base .non, kit_ty (by decide +kernel)⟩⟩⟩
    obtain ⟨L, xs, rfl, hL, lx, hx, nL, p2, s2⟩ := hM
    have ht2 := s2 _ _ (pen_tup (H' := H) pen ht) ht
    have tL : t ≠ L := fun z => by
      rw [z, nL] at ht
      cases ht
    have k1 : ((k : Nat) : Int) + 1 = ((k + 1 : Nat) : Int) := by omega
    have hvs : (([a, b, c', d, e, g] : List Int).map V.int).length = 6 := rfl
    obtain ⟨hin, hj⟩ := hv
    have hi := hin.of
    rw [jn_iff, canJ_iff, canJ_iff, canJ_iff, canJ_iff] at hj
    -- a thing that is no size
    refine ⟨fun σ H' => ∃ (xs : List V) (n' : Int), σ = [some (.ref p), some (.ref t), some (.int k), some (.ref L)] ∧ H' L = some (.lst xs) ∧ xs.length = 5 ∧ (∀ x ∈ xs, PairB K H' x) ∧ n ≤ n' ∧ n' ≤ n + 2 ∧ PenAt H' p c ms n' ∧ SameBut p H H', ?_, fun σ H3 hM => ?_⟩
    · refine ⟨_, rfl, .inl ⟨rfl, _, SqL.of hL⟩, _, rfl, _, rfl, k, rfl, t, _, rfl, ht2, fun q1 G1 b1 hq1 => ?_⟩
      refine ⟨_, rfl, p, c, ms, n1, rfl, p2.same b1, by omega, by omega, fun v n2 G2 hsz m0 m1 p3 s3 => ?_⟩
      have hq1' := s3 _ _ (pen_tup (H' := H) (p2.same b1) hq1) hq1
      refine ⟨by show 1 ≤ sizeLine; decide, fun u hu => ?_⟩
      have b2 := same_upd (o := .tup [v]) hu
      have ht3 := b2 _ _ (s3 _ _ (pen_tup (H' := H) (p2.same b1) (b1 _ _ ht2)) (b1 _ _ ht2))
      refine ⟨q1, u, _, _, rfl, rfl, b2 _ _ hq1', upd_same, ?_, fun q2 G4 b4 hq2 => ?_⟩
      · have := cutV_length (([a, b, c', d, e, g] : List Int).map V.int) none (some (k : Int))
        rw [hvs] at this
        rw [sizeLine_eq]
        show _ + 1 ≤ _
        omega
      refine ⟨_, rfl, _, rfl, k, 1, rfl, rfl, _, rfl, t, _, rfl, b4 _ _ ht3, fun q3 G5 b5 hq3 => ?_⟩
      refine ⟨q2, q3, _, _, rfl, rfl, b5 _ _ hq2, hq3, ?_, fun q4 G6 b6 hq4 => ?_⟩
      · have z1 := cutV_length (([a, b, c', d, e, g] : List Int).map V.int) none (some (k : Int))
        have z2 := cutV_length (([a, b, c', d, e, g] : List Int).map V.int) (some ((k : Int) + 1)) none
        rw [hvs] at z1 z2
        rw [sizeLine_eq, List.length_append]
        show _ + 1 + _ ≤ _
        omega
      refine ⟨by show 2 ≤ sizeLine; decide, fun r5 h5 => ?_⟩
      have b7 := same_upd (o := .tup [.ref q4, .str "size"]) h5
      have b47 : Same _ _ := ((b2.trans b4).trans b5).trans (b6.trans b7)
      have sb : SameBut p H2 _ := SameBut.trans (Same.but b1) (SameBut.trans s3 (Same.but b47))
      have hL7 := sb _ _ (fun z => by rw [z] at nL; obtain ⟨_, z1, _⟩ := pen; rw [nL] at z1; cases z1) hL
      have p7 := p3.same b47
      refine ⟨L, xs, _, rfl, rfl, hL7, by rw [lx]; decide, xs ++ [.ref r5], n2, rfl, upd_same, by rw [List.length_append, lx]; rfl, ?_, by omega, by omega, ?_, ?_⟩
      · obtain ⟨pp, hpp, _⟩ := p2
        obtain ⟨pq, hpq, _⟩ := p7
        have kp : Keep K H2 _ := Keep.but hpp hpq sb
        have ku : Keep K (upd G6 r5 (.tup [.ref q4, .str "size"])) (upd (upd G6 r5 (.tup [.ref q4, .str "size"])) L (.lst (xs ++ [.ref r5]))) := Keep.but hL7 upd_same (fun b o hb e => by rw [upd_ne hb]; exact e)
        intro x hx'
        rcases List.mem_append.mp hx' with h | h
        · exact ((hx x h).keep kp).keep ku
        rw [List.mem_singleton.mp h]
        refine PairB.keep ⟨r5, _, _, rfl, upd_same, .inr ?_⟩ ku
        have hq5 := b7 _ _ hq4
        rw [k1, cut_take, cut_drop] at hq5
        have sv := hsz.same b47
        have s0 : Siz K (upd G6 r5 (.tup [.ref q4, .str "size"])) (.int a) true := Siz.int hi.1.1 hi.1.2
        have s1 : Siz K (upd G6 r5 (.tup [.ref q4, .str "size"])) (.int b) true := Siz.int hi.2.1.1 hi.2.1.2
        have s2 : Siz K (upd G6 r5 (.tup [.ref q4, .str "size"])) (.int c') true := Siz.int hi.2.2.1.1 hi.2.2.1.2
        have s3 : Siz K (upd G6 r5 (.tup [.ref q4, .str "size"])) (.int d) true := Siz.int hi.2.2.2.1.1 hi.2.2.2.1.2
        have s4 : Siz K (upd G6 r5 (.tup [.ref q4, .str "size"])) (.int e) true := Siz.int hi.2.2.2.2.1.1 hi.2.2.2.2.1.2
        have s5 : Siz K (upd G6 r5 (.tup [.ref q4, .str "size"])) (.int g) true := Siz.int hi.2.2.2.2.2.1 hi.2.2.2.2.2.2
        match k, k6, hq5 with
        | 0, _, hq4 => exact ⟨q4, _, _, _, _, _, _, [false, true, true, true, true, true], rfl, hq4, .cons sv (.cons s1 (.cons s2 (.cons s3 (.cons s4 (.cons s5 .nil))))), .inl ⟨rfl, rfl⟩⟩
        | 1, _, hq4 => exact ⟨q4, _, _, _, _, _, _, [true, false, true, true, true, true], rfl, hq4, .cons s0 (.cons sv (.cons s2 (.cons s3 (.cons s4 (.cons s5 .nil))))), .inl ⟨rfl, rfl⟩⟩
        | 2, _, hq4 => exact ⟨q4, _, _, _, _, _, _, [true, true, false, true, true, true], rfl, hq4, .cons s0 (.cons s1 (.cons sv (.cons s3 (.cons s4 (.cons s5 .nil))))), .inl ⟨rfl, rfl⟩⟩
        | 3, _, hq4 => exact ⟨q4, _, _, _, _, _, _, [true, true, true, false, true, true], rfl, hq4, .cons s0 (.cons s1 (.cons s2 (.cons sv (.cons s4 (.cons s5 .nil))))), .inl ⟨rfl, rfl⟩⟩
        | 4, _, hq4 => exact ⟨q4, _, _, _, _, _, _, [true, true, true, true, false, true], rfl, hq4, .cons s0 (.cons s1 (.cons s2 (.cons s3 (.cons sv (.cons s5 .nil))))), .inl ⟨rfl, rfl⟩⟩
        | 5, _, hq4 => exact ⟨q4, _, _, _, _, _, _, [true, true, true, true, true, false], rfl, hq4, .cons s0 (.cons s1 (.cons s2 (.cons s3 (.cons s4 (.cons sv .nil))))), .inl ⟨rfl, rfl⟩⟩
      · obtain ⟨pq, z1, z2, z3⟩ := p7
        have e1 : p ≠ L := fun z => by rw [← z] at nL; obtain ⟨_, z1, _⟩ := pen; rw [nL] at z1; cases z1
        have e2 : c ≠ L := fun z => by rw [← z] at nL; obtain ⟨_, _, z1, _⟩ := pen; rw [nL] at z1; cases z1
        exact ⟨pq, by rw [upd_ne e1]; exact z1, by rw [upd_ne e2]; exact z2, z3⟩
      · intro b' o hb' e'
        have e1 : b' ≠ L := fun z => by rw [z, nL] at e'; cases e'
        rw [upd_ne e1]
        exact (SameBut.trans s2 sb) _ _ hb' e'
    obtain ⟨ys, n2, rfl, hL3, ly, hy, m0, m1, p3, s3⟩ := hM
    have ht3 := s3 _ _ (pen_tup (H' := H) pen ht) ht
    obtain ⟨xk, hxk, xm⟩ : ∃ xk : Int, (([a, b, c', d, e, g] : List Int).map V.int)[k]? = some (.int xk) ∧ xk ∈ ([a, b, c', d, e, g] : List Int) := by
      have : k < ([a, b, c', d, e, g] : List Int).length := k6
      exact ⟨[a, b, c', d, e, g][k], by rw [List.getElem?_map, List.getElem?_eq_getElem this]; rfl, List.getElem_mem this⟩
    have x01 : 0 ≤ xk ∧ xk ≤ 40 := hin xk xm
    -- a size that doesn't fit
    refine ⟨fun σ H' => ∃ (xs : List V) (n' : Int), σ = [some (.ref p), some (.ref t), some (.int k), some (.ref L)] ∧ H' L = some (.lst xs) ∧ xs.length = 6 ∧ (∀ x ∈ xs, PairB K H' x) ∧ n ≤ n' ∧ n' ≤ n + 2 ∧ PenAt H' p c ms n' ∧ SameBut p H H', ?_, fun σ H4 hM => ?_⟩
    · refine ⟨_, rfl, .inl ⟨rfl, _, SqL.of hL3⟩, _, rfl, _, rfl, k, rfl, t, _, rfl, ht3, fun q1 G1 b1 hq1 => ?_⟩
      refine ⟨_, rfl, _, rfl, t, _, k, _, rfl, rfl, SqT.of (b1 _ _ ht3), gx k _ hxk, 1, rfl, by show 2 ≤ sizeLine; decide, fun l hl => ?_⟩
      have b2 := same_upd (o := .lst (([1, -1] : List Int).map V.int)) hl
      refine ⟨_, rfl, _, rfl, t, _, k, _, rfl, rfl, SqT.of ((b1.trans b2) _ _ ht3), gx k _ hxk, xk, 30, rfl, rfl, .inr ⟨_, rfl, ?_⟩⟩
      obtain ⟨v, hv', ev⟩ : ∃ v : Int, ((xk > 30 ∧ v = -1) ∨ (¬ xk > 30 ∧ v = 1)) ∧ atI (([1, -1] : List Int).map V.int) (if decide (xk > 30) = true then (1 : Int) else 0) = some (.int v) := by
        by_cases h30 : xk > 30
        · exact ⟨-1, .inl ⟨h30, rfl⟩, by rw [if_pos (decide_eq_true h30)]; rfl⟩
        · exact ⟨1, .inr ⟨h30, rfl⟩, by rw [if_neg (by rw [decide_eq_false h30]; exact Bool.false_ne_true)]; rfl⟩
      refine ⟨l, _, _, _, rfl, rfl, SqL.of upd_same, ev, xk, v, rfl, rfl, by show 1 ≤ sizeLine; decide, fun u hu => ?_⟩
      have b3 := same_upd (o := .tup [.int (xk + v)]) hu
      have b13 := (b1.trans b2).trans b3
      refine ⟨q1, u, _, _, rfl, rfl, (b2.trans b3) _ _ hq1, upd_same, ?_, fun q2 G4 b4 hq2 => ?_⟩
      · have := cutV_length (([a, b, c', d, e, g] : List Int).map V.int) none (some (k : Int))
        rw [hvs] at this
        rw [sizeLine_eq]
        show _ + 1 ≤ _
        omega
      refine ⟨_, rfl, _, rfl, k, 1, rfl, rfl, _, rfl, t, _, rfl, (b13.trans b4) _ _ ht3, fun q3 G5 b5 hq3 => ?_⟩
      refine ⟨q2, q3, _, _, rfl, rfl, b5 _ _ hq2, hq3, ?_, fun q4 G6 b6 hq4 => ?_⟩
      · have z1 := cutV_length (([a, b, c', d, e, g] : List Int).map V.int) none (some (k : Int))
        have z2 := cutV_length (([a, b, c', d, e, g] : List Int).map V.int) (some ((k : Int) + 1)) none
        rw [hvs] at z1 z2
        rw [sizeLine_eq, List.length_append]
        show _ + 1 + _ ≤ _
        omega
      refine ⟨by show 2 ≤ sizeLine; decide, fun r5 h5 => ?_⟩
      have b7 := same_upd (o := .tup [.ref q4, .str "triple"]) h5
      have b17 : Same H3 _ := (b13.trans b4).trans (b5.trans (b6.trans b7))
      have hL7 := b17 _ _ hL3
      have p7 := p3.same b17
      refine ⟨L, ys, _, rfl, rfl, hL7, by rw [ly]; decide, ys ++ [.ref r5], n2, rfl, upd_same, by rw [List.length_append, ly]; rfl, ?_, by omega, by omega, ?_, ?_⟩
      · have ku : Keep K (upd G6 r5 (.tup [.ref q4, .str "triple"])) (upd (upd G6 r5 (.tup [.ref q4, .str "triple"])) L (.lst (ys ++ [.ref r5]))) := Keep.but hL7 upd_same (fun b o hb e => by rw [upd_ne hb]; exact e)
        intro x hx'
        rcases List.mem_append.mp hx' with h | h
        · exact ((hy x h).keep (Keep.of b17)).keep ku
        rw [List.mem_singleton.mp h]
        refine PairB.keep ⟨r5, _, _, rfl, upd_same, .inr ?_⟩ ku
        have hq5 := b7 _ _ hq4
        rw [k1, cut_take, cut_drop] at hq5
        have s0 : Siz K (upd G6 r5 (.tup [.ref q4, .str "triple"])) (.int a) true := Siz.int hi.1.1 hi.1.2
        have s1 : Siz K (upd G6 r5 (.tup [.ref q4, .str "triple"])) (.int b) true := Siz.int hi.2.1.1 hi.2.1.2
        have s2 : Siz K (upd G6 r5 (.tup [.ref q4, .str "triple"])) (.int c') true := Siz.int hi.2.2.1.1 hi.2.2.1.2
        have s3 : Siz K (upd G6 r5 (.tup [.ref q4, .str "triple"])) (.int d) true := Siz.int hi.2.2.2.1.1 hi.2.2.2.1.2
        have s4 : Siz K (upd G6 r5 (.tup [.ref q4, .str "triple"])) (.int e) true := Siz.int hi.2.2.2.2.1.1 hi.2.2.2.2.1.2
        have s5 : Siz K (upd G6 r5 (.tup [.ref q4, .str "triple"])) (.int g) true := Siz.int hi.2.2.2.2.2.1 hi.2.2.2.2.2.2
        match k, k6, hxk, hq5 with
        | 0, _, hxk, hq4 => 
          cases hxk
          refine ⟨q4, _, _, _, _, _, _, [true, true, true, true, true, true], rfl, hq4, .cons (Siz.int (by omega) (by omega)) (.cons s1 (.cons s2 (.cons s3 (.cons s4 (.cons s5 .nil))))), .inr ⟨rfl, rfl, fun a1 b1 c1 d1 e1 g1 z => ?_⟩⟩
          simp only [List.map_cons, List.map_nil, List.cons.injEq, V.int.injEq, and_true] at z
          obtain ⟨rfl, rfl, rfl, rfl, rfl, rfl⟩ := z
          cases hJ : Jn _ _ _ _ _ _ with
          | false => rfl
          | true =>
            rw [jn_iff, canJ_iff, canJ_iff, canJ_iff, canJ_iff] at hJ
            omega
        | 1, _, hxk, hq4 => 
          cases hxk
          refine ⟨q4, _, _, _, _, _, _, [true, true, true, true, true, true], rfl, hq4, .cons s0 (.cons (Siz.int (by omega) (by omega)) (.cons s2 (.cons s3 (.cons s4 (.cons s5 .nil))))), .inr ⟨rfl, rfl, fun a1 b1 c1 d1 e1 g1 z => ?_⟩⟩
          simp only [List.map_cons, List.map_nil, List.cons.injEq, V.int.injEq, and_true] at z
          obtain ⟨rfl, rfl, rfl, rfl, rfl, rfl⟩ := z
          cases hJ : Jn _ _ _ _ _ _ with
          | false => rfl
          | true =>
            rw [jn_iff, canJ_iff, canJ_iff, canJ_iff, canJ_iff] at hJ
            omega
        | 2, _, hxk, hq4 => 
          cases hxk
          refine ⟨q4, _, _, _, _, _, _, [true, true, true, true, true, true], rfl, hq4, .cons s0 (.cons s1 (.cons (Siz.int (by omega) (by omega)) (.cons s3 (.cons s4 (.cons s5 .nil))))), .inr ⟨rfl, rfl, fun a1 b1 c1 d1 e1 g1 z => ?_⟩⟩
          simp only [List.map_cons, List.map_nil, List.cons.injEq, V.int.injEq, and_true] at z
          obtain ⟨rfl, rfl, rfl, rfl, rfl, rfl⟩ := z
          cases hJ : Jn _ _ _ _ _ _ with
          | false => rfl
          | true =>
            rw [jn_iff, canJ_iff, canJ_iff, canJ_iff, canJ_iff] at hJ
            omega
        | 3, _, hxk, hq4 => 
          cases hxk
          refine ⟨q4, _, _, _, _, _, _, [true, true, true, true, true, true], rfl, hq4, .cons s0 (.cons s1 (.cons s2 (.cons (Siz.int (by omega) (by omega)) (.cons s4 (.cons s5 .nil))))), .inr ⟨rfl, rfl, fun a1 b1 c1 d1 e1 g1 z => ?_⟩⟩
          simp only [List.map_cons, List.map_nil, List.cons.injEq, V.int.injEq, and_true] at z
          obtain ⟨rfl, rfl, rfl, rfl, rfl, rfl⟩ := z
          cases hJ : Jn _ _ _ _ _ _ with
          | false => rfl
          | true =>
            rw [jn_iff, canJ_iff, canJ_iff, canJ_iff, canJ_iff] at hJ
            omega
        | 4, _, hxk, hq4 => 
          cases hxk
          refine ⟨q4, _, _, _, _, _, _, [true, true, true, true, true, true], rfl, hq4, .cons s0 (.cons s1 (.cons s2 (.cons s3 (.cons (Siz.int (by omega) (by omega)) (.cons s5 .nil))))), .inr ⟨rfl, rfl, fun a1 b1 c1 d1 e1 g1 z => ?_⟩⟩
          simp only [List.map_cons, List.map_nil, List.cons.injEq, V.int.injEq, and_true] at z
          obtain ⟨rfl, rfl, rfl, rfl, rfl, rfl⟩ := z
          cases hJ : Jn _ _ _ _ _ _ with
          | false => rfl
          | true =>
            rw [jn_iff, canJ_iff, canJ_iff, canJ_iff, canJ_iff] at hJ
            omega
        | 5, _, hxk, hq4 => 
          cases hxk
          refine ⟨q4, _, _, _, _, _, _, [true, true, true, true, true, true], rfl, hq4, .cons s0 (.cons s1 (.cons s2 (.cons s3 (.cons s4 (.cons (Siz.int (by omega) (by omega)) .nil))))), .inr ⟨rfl, rfl, fun a1 b1 c1 d1 e1 g1 z => ?_⟩⟩
          simp only [List.map_cons, List.map_nil, List.cons.injEq, V.int.injEq, and_true] at z
          obtain ⟨rfl, rfl, rfl, rfl, rfl, rfl⟩ := z
          cases hJ : Jn _ _ _ _ _ _ with
          | false => rfl
          | true =>
            rw [jn_iff, canJ_iff, canJ_iff, canJ_iff, canJ_iff] at hJ
            omega
      · obtain ⟨pq, z1, z2, z3⟩ := p7
        have e1 : p ≠ L := fun z => by rw [← z] at nL; obtain ⟨_, z1, _⟩ := pen; rw [nL] at z1; cases z1
        have e2 : c ≠ L := fun z => by rw [← z] at nL; obtain ⟨_, _, z1, _⟩ := pen; rw [nL] at z1; cases z1
        exact ⟨pq, by rw [upd_ne e1]; exact z1, by rw [upd_ne e2]; exact z2, z3⟩
      · intro b' o hb' e'
        have e1 : b' ≠ L := fun z => by rw [z, nL] at e'; cases e'
        rw [upd_ne e1]
        exact b17 _ _ (s3 _ _ hb' e')
    obtain ⟨zs, n3, rfl, hL4, lz, hz, m2, m3, p4, s4⟩ := hM
    -- one of all
    refine ⟨_, rfl, by show 0 ≤ sizeLine; decide, fun t1 h1 => ?_⟩
    have b1 := same_upd (o := .tup []) h1
    refine ⟨by show 2 ≤ sizeLine; decide, fun t2 h2 => ?_⟩
    have b2 := same_upd (o := .tup [.ref t1, .str "triple"]) h2
    refine ⟨by show 2 ≤ sizeLine; decide, fun t3 h3 => ?_⟩
    have b3 := same_upd (o := .tup [.str "abcdef", .str "triple"]) h3
    refine ⟨by show 2 ≤ sizeLine; decide, fun t4 h4 => ?_⟩
    have b4 := same_upd (o := .lst [.ref t2, .ref t3]) h4
    have b24 := b2.trans (b3.trans b4)
    have b14 := b1.trans b24
    refine ⟨L, t4, _, _, rfl, rfl, b14 _ _ hL4, upd_same, by rw [lz]; show 6 + 2 ≤ sizeLine; decide, fun t5 h5 => ?_⟩
    have b5 := same_upd (o := .lst (zs ++ [.ref t2, .ref t3])) h5
    have b15 := b14.trans b5
    refine ⟨_, rfl, p, c, ms, n3, 8, rfl, p4.same b15, by omega, by omega, by decide, by decide, fun j n4 G j0 j1 w0 w1 pg sg => ?_⟩
    have t5p : t5 ≠ p := PenAt.ne (p4.same b14) h5
    have hl5 := sg _ _ t5p upd_same
    have jl : j.toNat < (zs ++ [V.ref t2, .ref t3]).length := by
      rw [List.length_append, lz]
      show _ < 6 + 2
      omega
    refine ⟨t5, _, j, (zs ++ [V.ref t2, .ref t3])[j.toNat], rfl, rfl, SqL.of hl5, ?_, ?_⟩
    · have z := atI_nat (xs := zs ++ [V.ref t2, .ref t3]) (j := j.toNat) (List.getElem?_eq_getElem jl)
      rw [Int.toNat_of_nonneg j0] at z
      exact z
    · obtain ⟨_, y1, _⟩ := id (p4.same b15)
      obtain ⟨_, y2, _⟩ := id pg
      have k5 := Keep.but (K := K) y1 y2 sg
      have kp : Keep K H4 G := (Keep.of b15).trans k5
      refine q _ n4 G ?_ (by omega) (by omega) pg (SameBut.trans s4 (SameBut.trans (Same.but b15) sg))
      rcases List.mem_append.mp (List.getElem_mem jl) with h | h
      · exact (hz _ h).keep kp
      simp only [List.mem_cons, List.not_mem_nil, or_false] at h
      rcases h with h | h
      · rw [h]
        refine PairB.keep ⟨t2, _, _, rfl, (b3.trans (b4.trans b5)) _ _ upd_same, .inl ⟨rfl, .inr ⟨t1, _, rfl, (b24.trans b5) _ _ upd_same, by show 0 ≠ 6; decide⟩⟩⟩ k5
      · rw [h]
        exact PairB.keep ⟨t3, _, _, rfl, (b4.trans b5) _ _ upd_same, .inl ⟨rfl, .inl ⟨_, .base (.str _), kit_ty (by decide +kernel)⟩⟩⟩ k5
end
end TC
namespace TC
open PySem PySem.Spec PyProof.Rows L2 TCA TCX
/-! ### forms written out -/
theorem form_show {L1 L2 : List Int} (h1 : ∀ n ∈ L1, n.natAbs < 10 ^ 9) (h2 : ∀ n ∈ L2, n.natAbs < 10 ^ 9) (l1 : L1.length ≤ 1000) (l2 : L2.length ≤ 1000) : Shows (dForm L1 L2) := by
  obtain ⟨a1, a2, a3, a4, a5⟩ := ints_show L1 h1
  obtain ⟨b1, b2, b3, b4, b5⟩ := ints_show L2 h2
  refine ⟨?_, ?_, ?_, PyData.shown_fits (B := 13) (by decide) (by decide) (d := dForm L1 L2) ?_ ?_⟩
  · show (PyData.showableAll (dInts L1) && (PyData.showableAll (dInts L2) && true)) = true
    rw [a1, b1]
    rfl
  · show (PyData.hasDictAll (dInts L1) || (PyData.hasDictAll (dInts L2) || false)) = false
    rw [a2, b2]
    rfl
  · show max (PyData.depthAll (dInts L1) + 1) (max (PyData.depthAll (dInts L2) + 1) 0) + 1 ≤ 60
    omega
  · show (PyData.leavesShortAll 13 (dInts L1) && (PyData.leavesShortAll 13 (dInts L2) && true)) = true
    rw [a4, b4]
    rfl
  · show (PyData.weightAll (dInts L1) + 1 + (PyData.weightAll (dInts L2) + 1 + 0)) ≤ 2 ^ 20
    omega
theorem low_small {a b c d e g : Int} (h : In 40 [a, b, c, d, e, g]) {L : List Int} (s : Srt L (lows a b c d e g)) : (∀ n ∈ L, n.natAbs < 10 ^ 9) ∧ L.length ≤ 1000 := by
  have hi := h.of
  refine ⟨fun n hn => ?_, by rw [s.1.length_eq]; show 4 ≤ 1000; decide⟩
  have hm := s.1.mem_iff.mp hn
  simp only [lows, quad, List.map_cons, List.map_nil, List.mem_cons, List.not_mem_nil, or_false, List.sum_cons, List.sum_nil] at hm
  rcases hm with rfl | rfl | rfl | rfl <;> omega
theorem opp_small {a b c d e g : Int} (h : In 40 [a, b, c, d, e, g]) {L : List Int} (s : Srt L (opps a b c d e g)) : (∀ n ∈ L, n.natAbs < 10 ^ 9) ∧ L.length ≤ 1000 := by
  have hi := h.of
  refine ⟨fun n hn => ?_, by rw [s.1.length_eq]; show 3 ≤ 1000; decide⟩
  have hm := s.1.mem_iff.mp hn
  simp only [opps, List.mem_cons, List.not_mem_nil, or_false] at hm
  rcases hm with rfl | rfl | rfl <;> omega
theorem form_small {a b c d e g : Int} (h : In 40 [a, b, c, d, e, g]) {L1 L2 : List Int} (s1 : Srt L1 (lows a b c d e g)) (s2 : Srt L2 (opps a b c d e g)) : Shows (dForm L1 L2) :=
  form_show (low_small h s1).1 (opp_small h s2).1 (low_small h s1).2 (opp_small h s2).2
section
variable {K : PySem.W.Frag} {CS CT : Addr} {H : Hp} {Q : VK} {E : XK}
theorem v6_told {a b c d e g : Int} (hv : V6 40 a b c d e g) {q : Addr → List Int → List Int → Hp → Prop} {eS eT : Hp → Prop} (hq : ∀ r L1 L2 H', Same H H' → Srt L1 (lows a b c d e g) → Srt L2 (opps a b c d e g) → FormT H' r L1 L2 → q r L1 L2 H') :
    Told6 K H [.int a, .int b, .int c, .int d, .int e, .int g] [true, true, true, true, true, true] q eS eT := by
  have hi := hv.1.of
  refine ⟨.cons (Siz.int hi.1.1 hi.1.2) (.cons (Siz.int hi.2.1.1 hi.2.1.2) (.cons (Siz.int hi.2.2.1.1 hi.2.2.1.2) (.cons (Siz.int hi.2.2.2.1.1 hi.2.2.2.1.2) (.cons (Siz.int hi.2.2.2.2.1.1 hi.2.2.2.2.1.2) (.cons (Siz.int hi.2.2.2.2.2.1 hi.2.2.2.2.2.2) .nil))))), (fun z => by cases z), fun a1 b1 c1 d1 e1 g1 z _ hj => ?_, fun a1 b1 c1 d1 e1 g1 z _ _ => ?_⟩
  · simp only [List.map_cons, List.map_nil, List.cons.injEq, V.int.injEq, and_true] at z
    obtain ⟨rfl, rfl, rfl, rfl, rfl, rfl⟩ := z
    rw [hv.2] at hj
    cases hj
  · simp only [List.map_cons, List.map_nil, List.cons.injEq, V.int.injEq, and_true] at z
    obtain ⟨rfl, rfl, rfl, rfl, rfl, rfl⟩ := z
    exact hq
theorem forms_good {a b c d e g : Int} (hv : V6 40 a b c d e g) (q : ∀ r L1 L2 H', Same H H' → Srt L1 (lows a b c d e g) → Srt L2 (opps a b c d e g) → FormT H' r L1 L2 → Q (.ref r) H') : spForms K CS CT [.int a, .int b, .int c, .int d, .int e, .int g] H Q E :=
  ⟨_, _, _, _, _, _, _, rfl, v6_told hv q⟩
theorem formT_good {t : Addr} {a b c d e g : Int} (ht : H t = some (iv [a, b, c, d, e, g])) (hv : V6 40 a b c d e g) (q : ∀ r L1 L2 H', Same H H' → Srt L1 (lows a b c d e g) → Srt L2 (opps a b c d e g) → FormT H' r L1 L2 → Q (.ref r) H') : spFormT K CS CT [.ref t] H Q E :=
  ⟨_, rfl, .inr ⟨t, _, _, _, _, _, _, _, rfl, ht, v6_told hv q⟩⟩
/-- what a word asks of the refusal -/
structure Due (CS CT : Addr) (E : XK) (H : Hp) (w : Str) : Prop where
  s : w = "size" → ∀ H', Same H H' → E (.ref CS) none H'
  t : w = "triple" → ∀ H', Same H H' → E (.ref CT) none H'
theorem Due.same {H1 : Hp} {w : Str} (h : Due CS CT E H w) (s : Same H H1) : Due CS CT E H1 w := ⟨fun z H' s' => h.s z H' (s.trans s'), fun z H' s' => h.t z H' (s.trans s')⟩
theorem formT_bad {v : V} {w : Str} (hb : Bad K H v w) (e : Due CS CT E H w) : spFormT K CS CT [v] H Q E := by
  refine ⟨v, rfl, ?_⟩
  rcases hb with ⟨ew, h⟩ | ⟨t, v1, v2, v3, v4, v5, v6, bs, ev, ht, hp, h⟩
  · exact .inl ⟨h, e.t ew⟩
  · refine .inr ⟨t, v1, v2, v3, v4, v5, v6, bs, ev, ht, hp, fun z => ?_, fun a b c d e' g z hbs hj => ?_, fun a b c d e' g z hbs hj => ?_⟩
    · rcases h with ⟨_, ew⟩ | ⟨h1, _⟩
      · exact e.s ew
      · rw [h1] at z
        cases z
    · rcases h with ⟨h1, _⟩ | ⟨_, ew, _⟩
      · rw [h1] at hbs
        cases hbs
      · exact e.t ew
    · rcases h with ⟨h1, _⟩ | ⟨_, _, h1⟩
      · rw [h1] at hbs
        cases hbs
      · have := h1 a b c d e' g z
        rw [this] at hj
        cases hj
theorem alike_good {t u : Addr} {a b c d e g a' b' c' d' e' g' : Int} (ht : H t = some (iv [a, b, c, d, e, g])) (hv : V6 40 a b c d e g) (hu : H u = some (iv [a', b', c', d', e', g'])) (hw : V6 40 a' b' c' d' e' g')
    (q : ∀ L1 L2 M1 M2 H', Same H H' → Srt L1 (lows a b c d e g) → Srt L2 (opps a b c d e g) → Srt M1 (lows a' b' c' d' e' g') → Srt M2 (opps a' b' c' d' e' g') → Q (.bl (decide (L1 = M1) && decide (L2 = M2))) H') : spAlike K CS CT [.ref t, .ref u] H Q E := by
  refine ⟨_, _, rfl, formT_good ht hv fun r L1 L2 H1 s1 l1 l2 f1 => ⟨r, L1, L2, rfl, f1, formT_good (s1 _ _ hu) hw fun r' M1 M2 H2 s2 m1 m2 f2 => ⟨s2, r', M1, M2, rfl, f2, q L1 L2 M1 M2 H2 (s1.trans s2) l1 l2 m1 m2⟩⟩⟩
theorem alike_bad1 {u v : V} {w : Str} (hb : Bad K H u w) (e : Due CS CT E H w) : spAlike K CS CT [u, v] H Q E := ⟨_, _, rfl, formT_bad hb e⟩
theorem alike_bad2 {t : Addr} {v : V} {w : Str} {a b c d e' g : Int} (ht : H t = some (iv [a, b, c, d, e', g])) (hv : V6 40 a b c d e' g) (hb : Bad K H v w) (e : Due CS CT E H w) : spAlike K CS CT [.ref t, v] H Q E :=
  ⟨_, _, rfl, formT_good ht hv fun r L1 L2 H1 s1 l1 l2 f1 => ⟨r, L1, L2, rfl, f1, formT_bad (hb.keep (Keep.of s1)) (e.same s1)⟩⟩
end
/-! ### two that are unlike -/
def V6L (l : List Int) : Bool := match l with
  | [a, b, c, d, e, g] => l.all (fun x => decide (0 ≤ x) && decide (x ≤ 40)) && Jn a b c d e g
  | _ => false
def threes (l : List Int) : Nat := match l with
  | [a, b, c, d, e, g] => (opps a b c d e g).count 3
  | _ => 7
theorem one_ok : ∀ l ∈ movedL 1 1 2 1 1 2, V6L l = true ∧ threes l = 2 := by decide +kernel
theorem two_ok : ∀ l ∈ movedL 2 0 2 2 0 2, V6L l = true ∧ threes l = 0 := by decide +kernel
theorem v6L {l : List Int} (h : V6L l = true) : ∃ a b c d e g, l = [a, b, c, d, e, g] ∧ V6 40 a b c d e g := by
  match l, h with
  | [a, b, c, d, e, g], h =>
    refine ⟨a, b, c, d, e, g, rfl, fun x hx => ?_, ?_⟩
    · have h1 := (Bool.and_eq_true _ _ ▸ h : _ ∧ _).1
      have := List.all_eq_true.mp h1 x hx
      simpa using this
    · exact (Bool.and_eq_true _ _ ▸ h : _ ∧ _).2
theorem unlike {a b c d e g a' b' c' d' e' g' : Int} (h1 : threes [a, b, c, d, e, g] = 2) (h2 : threes [a', b', c', d', e', g'] = 0) {L M : List Int} (l : Srt L (opps a b c d e g)) (m : Srt M (opps a' b' c' d' e' g')) : L ≠ M := fun z => by
  have p := (l.1.symm.trans (z ▸ List.Perm.refl _)).trans m.1
  have q := p.count_eq 3
  have e1 : (opps a b c d e g).count 3 = 2 := h1
  have e2 : (opps a' b' c' d' e' g').count 3 = 0 := h2
  rw [e1, e2] at q
  cases q
end TC
namespace TC
open PySem PySem.Spec PyProof.Rows L2 TCA TCX
theorem PenAt.extN {H H' : Hp} {p c : Addr} {ms : List Int} {n : Int} (h : PenAt H p c ms n) (s : LamX.ExtN H H') : PenAt H' p c ms n := by
  obtain ⟨l, h1, h2, h3⟩ := h
  exact ⟨l, s _ _ h1 (fun _ z => by cases z), s _ _ h2 (fun _ z => by cases z), h3⟩
theorem PenAt.nt {H : Hp} {p c q : Addr} {ms : List Int} {n : Int} {ps : Array Value} (h : PenAt H p c ms n) (hq : H q = some (.tbl ps)) : q ≠ p := by
  obtain ⟨l, h1, h2, h3⟩ := h
  exact fun e => by rw [e, h1] at hq; cases hq
theorem tabs_but {T : List (Addr × Str)} {H H' : Hp} {p c : Addr} {ms : List Int} {n : Int} (t : LamX.Tabs T H) (hp : PenAt H p c ms n) (s : SameBut p H H') : LamX.Tabs T H' := fun q hq => by
  obtain ⟨ps, h1, h2, h3⟩ := t q hq
  refine ⟨ps, s _ _ (PenAt.nt hp h1) h1, h2, fun pos cv hc => ?_⟩
  obtain ⟨c0, e1, e2⟩ := h3 pos cv hc
  refine ⟨c0, e1, s _ _ (fun z => ?_) e2⟩
  obtain ⟨l, g1, _, _⟩ := hp
  rw [z, g1] at e2
  unfold LamX.CodeO at e2
  cases e2
theorem Keep.extN {K : PySem.W.Frag} {H H' : Hp} (s : LamX.ExtN H H') : Keep K H H' := by
  refine ⟨fun {v t} h => ?_, fun {a xs} h => s _ _ h (fun _ z => by cases z)⟩
  cases h with
  | base b =>
    cases b with
    | non => exact .base .non
    | bl y => exact .base (.bl y)
    | int i => exact .base (.int i)
    | str y => exact .base (.str y)
    | flt y => exact .base (.flt y)
    | lst e => exact .base (.lst (s _ _ e fun _ z => by cases z))
    | frz e => exact .base (.frz (s _ _ e fun _ z => by cases z))
    | tup e => exact .base (.tup (s _ _ e fun _ z => by cases z))
    | dK e => exact .base (.dK (s _ _ e fun _ z => by cases z))
    | dT e => exact .base (.dT (s _ _ e fun _ z => by cases z))
    | ins e cl ha hn htk hm => exact .base (.ins (s _ _ e fun _ z => by cases z) cl ha hn htk hm)
  | byt y => exact .byt y
  | set e => exact .set (s _ _ e fun _ z => by cases z)
  | kList e c => exact .kList e c
  | kTuple e c => exact .kTuple e c
  | kDict e c => exact .kDict e c
  | fTuple e => exact .fTuple (s _ _ e fun _ z => by cases z)
  | fDict e => exact .fDict (s _ _ e fun _ z => by cases z)
theorem Keep.pen {K : PySem.W.Frag} {H H' : Hp} {p c : Addr} {ms : List Int} {n n' : Int} (h : PenAt H p c ms n) (h' : PenAt H' p c ms n') (s : SameBut p H H') : Keep K H H' := by
  obtain ⟨_, y1, _⟩ := h
  obtain ⟨_, y2, _⟩ := h'
  exact Keep.but y1 y2 s
theorem Bad.word {K : PySem.W.Frag} {H : Hp} {v : V} {w : Str} (h : Bad K H v w) : w = "size" ∨ w = "triple" := by
  rcases h with ⟨e, _⟩ | ⟨_, _, _, _, _, _, _, _, _, _, _, ⟨_, e⟩ | ⟨_, e, _⟩⟩
  · exact .inr e
  · exact .inl e
  · exact .inr e
/-- what is refused with a word -/
def dRefW (w : Str) : PyData := .tuple [.str "refused", .str w]
theorem dRefW_ok {w : Str} (h : w = "size" ∨ w = "triple") : SeqAt.shaped (dRefW w) = true ∧ PyData.eqv (dRefW w) (dRefW w) = true := by
  rcases h with rfl | rfl <;> decide +kernel
theorem dp_refW {K : PySem.W.Frag} {H : Hp} {a : Addr} {w : Str} (h : H a = some (.tup [.str "refused", .str w])) : Dp K H (.ref a) (dRefW w) := .tup (SqT.of h) (.cons (.str _) (.cons (.str _) .nil))
theorem V6.mono {h k a b c d e g : Int} (hv : V6 h a b c d e g) (hk : h ≤ k) : V6 k a b c d e g := ⟨fun x hx => ⟨(hv.1 x hx).1, Int.le_trans (hv.1 x hx).2 hk⟩, hv.2⟩
theorem v6_same {x : Int} (h0 : 0 ≤ x) (h1 : x ≤ 40) (h2 : x % 2 = 0) : V6 40 x x x x x x := by
  refine ⟨In.mk6 ⟨⟨h0, h1⟩, ⟨h0, h1⟩, ⟨h0, h1⟩, ⟨h0, h1⟩, ⟨h0, h1⟩, ⟨h0, h1⟩⟩, ?_⟩
  rw [jn_iff, canJ_iff]
  omega
/-- three askings that are refused -/
def Ask (K : PySem.W.Frag) (CS CT : Addr) (G : Hp) (u v : V) (w : Str) : Prop := (w = "size" ∨ w = "triple") ∧ ∀ (G1 : Hp) (Q : VK) (E : XK), Keep K G G1 → Due CS CT E G1 w → spAlike K CS CT [u, v] G1 Q E
theorem ask1 {K : PySem.W.Frag} {CS CT : Addr} {G : Hp} {u v : V} {w : Str} (h : Bad K G u w) : Ask K CS CT G u v w := ⟨h.word, fun G1 Q E s e => alike_bad1 (h.keep s) e⟩
theorem ask2 {K : PySem.W.Frag} {CS CT : Addr} {G : Hp} {t : Addr} {v : V} {w : Str} {a b c d e' g : Int} (ht : G t = some (iv [a, b, c, d, e', g])) (hv : V6 40 a b c d e' g) (h : Bad K G v w) : Ask K CS CT G (.ref t) v w := ⟨h.word, fun G1 Q E s e => alike_bad2 (s.tp ht) hv (h.keep s) e⟩
end TC
namespace TC
open PySem PySem.Spec PyProof.Rows L2 TCA TCX
abbrev qLaw : Str := (envOfC "law" (defScope sLaw) 0 0 .none).qual ++ "<lambda>"
abbrev tLaw (K : PySem.W.Frag) : List (Addr × Str) := [((He.cT K ("law", none)).2, qLaw)]
abbrev nLaw : List Str := ["_law_script", "_law_pen_here", "_law_one", "_law_two", "_law_turn", "_law_high", "_law_sizes_here", "_law_other_here", "_law_a", "_law_b", "_law_c", "_law_d", "_law_e", "_law_f", "_law_due", "_law_bad", "_law_word_here", "_law_worse", "_law_later"]
theorem scLaw : FnScope nLaw ["_law_script"] (defScope sLaw) := ⟨rfl, rfl, rfl, by decide +kernel, rfl, by decide +kernel, by decide +kernel⟩
def spLaw (K : PySem.W.Frag) : Sp := fun vs H Q _ => ∃ (a : Addr) (ns : List Int), vs = [.ref a] ∧ SqL K H a (ns.map V.int) ∧ ns.length ≤ 63 ∧ H (He.cT K ("law", none)).2 = some (.tbl #[]) ∧ ∀ H', Q (.bl true) H'
theorem fnG_of {CX : CXT} {P : Program} {w : World} {K : PySem.W.Frag} {mg : Str → Option Value} {base : Heap} {k : Nat} {f : Addr} {name qual : Str} {params : Arguments} {body : List Stmt} {scope : Scope} {dV kV doc pm cdv ct oc : Value} {an od : Option Addr}
    {osl : Array (Option Value)} {N ps : List Str} {sp : Sp} (lk : K.lookup f = some ⟨oc, od, .func (PySem.W.fnOf name qual params body scope dV kV doc pm an cdv ct), osl⟩) (hcd : PySem.W.codeIn K cdv qual = true) (S : FnScope N ps scope)
    (len : ∀ vs H Q E, sp vs H Q E → vs.length = ps.length)
    (hbody : ∀ (A : Around) (outer : List Env) (s : Shared) (H : Hp) (vs : List V) (Q : VK) (E : XK), A.guards = some [] → Room k (A.deeper (envOfC qual scope s.heap.objs.size f cdv)) → sp vs H Q E →
      ∃ t, PSs (cxOf CX P w K mg base N qual scope f cdv A outer s H E) body t ∧ t { nx := fun _ H' => Q .non H', rt := Q } (L2.start N vs) H) :
    FnG P w K mg base CX (k + 1) f (PySem.W.fnOf name qual params body scope dV kV doc pm an cdv ct) ps sp :=
  ⟨len, fun A outer s H args us vs Q E hg hr e0 hb r hsp => LamX.run_ofS lk hcd S hr e0 hb r (len _ _ _ _ hsp) fun hr' => hbody A outer s H vs Q E hg hr' hsp⟩
structure LTxt (P : Program) (w : World) (K : PySem.W.Frag) (mg : Str → Option Value) (base : Heap) (fP fD fM fG fO fF fL fA fB fS fW CS CT : Addr) (fdP fdD fdM fdG fdO fdF fdL fdA fdB fdS fdW : FuncData) : Prop where
  GP : FnOk P w K mg base CX0 1 fP fdP ["_law_script"] (spPen K)
  bP : L2.Binds K fdP ["_law_script"] []
  kP : PySem.W.keepIn K (.ref fP) = true
  gP : mg "_law_pen" = some (.ref fP)
  GD : FnOk P w K mg base CX0 1 fD fdD ["_law_pen_here", "_law_many"] spDraw
  bD : L2.Binds K fdD ["_law_pen_here", "_law_many"] []
  kD : PySem.W.keepIn K (.ref fD) = true
  gD : mg "_law_draw" = some (.ref fD)
  GM : FnOk P w K mg base CX0 2 fM fdM ["_law_pen_here", "_law_sizes_here"] spMoved
  bM : L2.Binds K fdM ["_law_pen_here", "_law_sizes_here"] []
  kM : PySem.W.keepIn K (.ref fM) = true
  gM : mg "_law_moved" = some (.ref fM)
  GG : FnOk P w K mg base CX0 5 fG fdG ["_law_pen_here", "_law_high"] spGood
  bG : L2.Binds K fdG ["_law_pen_here", "_law_high"] []
  kG : PySem.W.keepIn K (.ref fG) = true
  gG : mg "_law_good" = some (.ref fG)
  GO : FnOk P w K mg base CX0 6 fO fdO ["_law_pen_here", "_law_sizes_here", "_law_high"] spOther
  bO : L2.Binds K fdO ["_law_pen_here", "_law_sizes_here", "_law_high"] []
  kO : PySem.W.keepIn K (.ref fO) = true
  gO : mg "_law_other" = some (.ref fO)
  GF : FnOk P w K mg base (L2.CX P w) 4 fF fdF ["a", "b", "c", "d", "e", "f"] (spForms K CS CT)
  bF : L2.Binds K fdF ["a", "b", "c", "d", "e", "f"] []
  kF : PySem.W.keepIn K (.ref fF) = true
  gF : mg "forms_of" = some (.ref fF)
  GL : FnOk P w K mg base CX0 3 fL fdL ["_law_sizes_here"] spForm
  bL : L2.Binds K fdL ["_law_sizes_here"] []
  kL : PySem.W.keepIn K (.ref fL) = true
  gL : mg "_law_form" = some (.ref fL)
  GA : FnOk P w K mg base (L2.CX P w) 6 fA fdA ["sizes", "others"] (spAlike K CS CT)
  bA : L2.Binds K fdA ["sizes", "others"] []
  kA : PySem.W.keepIn K (.ref fA) = true
  gA : mg "alike_sixes" = some (.ref fA)
  GB : FnOk P w K mg base CX0 6 fB fdB ["_law_pen_here", "_law_sizes_here"] (spWrong K)
  bB : L2.Binds K fdB ["_law_pen_here", "_law_sizes_here"] []
  kB : PySem.W.keepIn K (.ref fB) = true
  gB : mg "_law_wrong" = some (.ref fB)
  FS : FnP K "_law_said" sSaid fS fdS
  bS : L2.Binds K fdS ["_law_call"] []
  gS : mg "_law_said" = some (.ref fS)
  GW : FnOk P w K mg base CX0 1 fW fdW ["_law_e"] (spWord K)
  bW : L2.Binds K fdW ["_law_e"] []
  kW : PySem.W.keepIn K (.ref fW) = true
  gW : mg "_law_word" = some (.ref fW)
  ST : STxt K mg
  kdS : Kind K CS 9
  hxS : PySem.W.exmAny K (.ref CS) [.ref (He.ga K "TurnError")] = some true
  kdT : Kind K CT 15
  hxT : PySem.W.exmAny K (.ref CT) [.ref (He.ga K "TurnError")] = some true
  gr : mg "range" = none
  gp : mg "repr" = none
section
variable {P : Program} {w : World} {K : PySem.W.Frag} {mg : Str → Option Value} {base : Heap} {fP fD fM fG fO fF fL fA fB fS fW CS CT : Addr} {fd fdP fdD fdM fdG fdO fdF fdL fdA fdB fdS fdW : FuncData}
theorem ok_law (F : FnP K "law" sLaw (He.fAd K ("law", none)) fd) (T : LTxt P w K mg base fP fD fM fG fO fF fL fA fB fS fW CS CT fdP fdD fdM fdG fdO fdF fdL fdA fdB fdS fdW) (TB : LamX.TabB base mg (He.cT K ("law", none)).1 (He.cT K ("law", none)).2) : FnG P w K mg base CX0 9 (He.fAd K ("law", none)) fd ["_law_script"] (spLaw K) := by
  obtain ⟨oc, od, dV, kV, doc, pm, an, cdv, ct, osl, rfl, lk, hcd, _, _⟩ := F.ex
  obtain ⟨cc, rfl⟩ := He.codeIn_ref hcd
  have ecc : He.codeOf K ("law", none) = cc := He.codeOf_eq lk rfl
  obtain ⟨oc2, od2, dV2, kV2, doc2, pm2, an2, cdv2, ct2, osl2, e2, lk2, hcd2, _, _⟩ := T.FS.ex
  have bS := T.bS
  rw [e2] at bS lk2
  refine fnG_of lk hcd scLaw (fun vs H Q E h => ?_) (fun A outer s H vs Q E hG hr h => ?_)
  · obtain ⟨a, ns, rfl, _⟩ := h
    rfl
  · obtain ⟨a, ns, rfl, hS, hn, hTb, q⟩ := h
    have hu := (hr.mono (show 1 ≤ 8 by decide)).units
    have hr1 := hr.mono (show 1 ≤ 8 by decide)
    have hr2 := hr.mono (show 2 ≤ 8 by decide)
    have hr3 := hr.mono (show 3 ≤ 8 by decide)
    have hr4 := hr.mono (show 4 ≤ 8 by decide)
    have hr5 := hr.mono (show 5 ≤ 8 by decide)
    have hr6 := hr.mono (show 6 ≤ 8 by decide)
    have GA := boxed T.GA
    have GF := boxed T.GF
    refine ⟨_, PSs.nox (pss_cons (ps_set (i := 1) scLaw.nd rfl (.inl rfl) (pe_call T.GP hr1 (by rfl) T.gP T.kP T.bP .nil pass0 (pa_cons (pv 0) pa_nil)))
      (C8.pss_cut (ps_asg (pe_tup (pa_cons (pe_call T.GM hr2 (by rfl) T.gM T.kM T.bM .nil pass0 (pa_cons (pv 1) (pa_cons (pe_tup (pa_cons pe_int (pa_cons pe_int (pa_cons pe_int (pa_cons pe_int (pa_cons pe_int (pa_cons pe_int pa_nil))))))) pa_nil))) (pa_cons (pe_call T.GM hr2 (by rfl) T.gM T.kM T.bM .nil pass0 (pa_cons (pv 1) (pa_cons (pe_tup (pa_cons pe_int (pa_cons pe_int (pa_cons pe_int (pa_cons pe_int (pa_cons pe_int (pa_cons pe_int pa_nil))))))) pa_nil))) pa_nil))) (pg_tup rfl (pgs_cons (pg_name (i := 2) scLaw.nd rfl (.inr rfl)) (pgs_cons (pg_name (i := 3) scLaw.nd rfl (.inr rfl)) pgs_nil))))
      (C8.pss_cut (ps_if (PW.pt (pw_or (pt_cmpR op_isnot_bl (pe_call GA hr6 (by rfl) T.gA T.kA T.bA .nil (E := E0) passL (pa_cons (pv 2) (pa_cons (pv 3) pa_nil))) pe_bl (nomark _)) (pw_or1 (pt_cmpR op_isnot_bl (pe_call GA hr6 (by rfl) T.gA T.kA T.bA .nil (E := E0) passL (pa_cons (pv 3) (pa_cons (pv 2) pa_nil))) pe_bl (nomark _))))) (pss_one (ps_ret pe_bl)) pss_nil)
      (pss_cons (ps_for PassesOwn.never rfl (pi_range1 (by rfl) T.gr (pa_cons pe_int pa_nil)) (pg_name (i := 4) scLaw.nd rfl (.inl rfl))
        (pss_cons (ps_set (i := 5) scLaw.nd rfl (.inl rfl) (pe_ix ix_list (pe_lst (pa_cons pe_int (pa_cons pe_int (pa_cons pe_int pa_nil)))) (pe_call T.GD hr1 (by rfl) T.gD T.kD T.bD .nil pass0 (pa_cons (pv 1) (pa_cons pe_int pa_nil))) (fun _ _ => rfl)))
        (pss_cons (ps_set (i := 6) scLaw.nd rfl (.inl rfl) (pe_call T.GG hr5 (by rfl) T.gG T.kG T.bG .nil pass0 (pa_cons (pv 1) (pa_cons (pv 5) pa_nil))))
        (C8.pss_cut (ps_if (pt_cmpR op_eq (pe_call T.GD hr1 (by rfl) T.gD T.kD T.bD .nil pass0 (pa_cons (pv 1) (pa_cons pe_int pa_nil))) pe_int (nomark _)) (pss_one (ps_set (i := 6) scLaw.nd rfl (.inl rfl) (pe_op op_repT (pe_tup (pa_cons (pe_op op_mul pe_int (pe_call T.GD hr1 (by rfl) T.gD T.kD T.bD .nil pass0 (pa_cons (pv 1) (pa_cons pe_int pa_nil)))) pa_nil)) pe_int))) pss_nil)
        (pss_cons (ps_set (i := 7) scLaw.nd rfl (.inl rfl) (pe_call T.GO hr6 (by rfl) T.gO T.kO T.bO .nil pass0 (pa_cons (pv 1) (pa_cons (pv 6) (pa_cons (pv 5) pa_nil)))))
        (C8.pss_cut (ps_for PassesOwn.never rfl (pi_tup (pe_tup (pa_cons (pv 6) (pa_cons (pv 7) pa_nil)))) (pg_tup rfl (pgs_cons (pg_name (i := 8) scLaw.nd rfl (.inl rfl)) (pgs_cons (pg_name (i := 9) scLaw.nd rfl (.inl rfl)) (pgs_cons (pg_name (i := 10) scLaw.nd rfl (.inl rfl)) (pgs_cons (pg_name (i := 11) scLaw.nd rfl (.inl rfl)) (pgs_cons (pg_name (i := 12) scLaw.nd rfl (.inl rfl)) (pgs_cons (pg_name (i := 13) scLaw.nd rfl (.inl rfl)) pgs_nil)))))))
          (pss_one (ps_if (pt_cmpR op_ne (pe_callB (call_reprD hG hu) (by rfl) T.gp (by decide +kernel) (pa_cons (pe_call GF hr4 (by rfl) T.gF T.kF T.bF .nil (E := E0) passL (pa_cons (pv 8) (pa_cons (pv 9) (pa_cons (pv 10) (pa_cons (pv 11) (pa_cons (pv 12) (pa_cons (pv 13) pa_nil))))))) pa_nil)) (pe_callB (call_reprD hG hu) (by rfl) T.gp (by decide +kernel) (pa_cons (pe_call T.GL hr3 (by rfl) T.gL T.kL T.bL .nil pass0 (pa_cons (pe_tup (pa_cons (pv 8) (pa_cons (pv 9) (pa_cons (pv 10) (pa_cons (pv 11) (pa_cons (pv 12) (pa_cons (pv 13) pa_nil))))))) pa_nil)) pa_nil)) (nomark _)) (pss_one (ps_ret pe_bl)) pss_nil)))
        (pss_cons (ps_set (i := 14) scLaw.nd rfl (.inl rfl) (pe_cmpR (op_eqD hu) (pe_call T.GL hr3 (by rfl) T.gL T.kL T.bL .nil pass0 (pa_cons (pv 6) pa_nil)) (pe_call T.GL hr3 (by rfl) T.gL T.kL T.bL .nil pass0 (pa_cons (pv 7) pa_nil)) (nomark _)))
        (C8.pss_cut (ps_if (PW.pt (pw_or (pt_cmpR op_ne (pe_callB call_reprB (by rfl) T.gp (by decide +kernel) (pa_cons (pe_call GA hr6 (by rfl) T.gA T.kA T.bA .nil (E := E0) passL (pa_cons (pv 6) (pa_cons (pv 7) pa_nil))) pa_nil)) (pe_callB call_reprB (by rfl) T.gp (by decide +kernel) (pa_cons (pv 14) pa_nil)) (nomark _)) (pw_or1 (pt_cmpR op_ne (pe_callB call_reprB (by rfl) T.gp (by decide +kernel) (pa_cons (pe_call GA hr6 (by rfl) T.gA T.kA T.bA .nil (E := E0) passL (pa_cons (pv 7) (pa_cons (pv 6) pa_nil))) pa_nil)) (pe_callB call_reprB (by rfl) T.gp (by decide +kernel) (pa_cons (pv 14) pa_nil)) (nomark _))))) (pss_one (ps_ret pe_bl)) pss_nil)
        (pss_cons (ps_asg (pe_call T.GB hr6 (by rfl) T.gB T.kB T.bB .nil pass0 (pa_cons (pv 1) (pa_cons (pv 6) pa_nil))) (pg_tup rfl (pgs_cons (pg_name (i := 15) scLaw.nd rfl (.inl rfl)) (pgs_cons (pg_name (i := 16) scLaw.nd rfl (.inl rfl)) pgs_nil))))
        (pss_cons (ps_asg (pe_call T.GB hr6 (by rfl) T.gB T.kB T.bB .nil pass0 (pa_cons (pv 1) (pa_cons (pv 7) pa_nil))) (pg_tup rfl (pgs_cons (pg_name (i := 17) scLaw.nd rfl (.inl rfl)) (pgs_cons (pg_name (i := 18) scLaw.nd rfl (.inl rfl)) pgs_nil))))
        (pss_one (ps_for PassesOwn.never rfl (pi_list (pe_lst (pa_cons (pe_tup (pa_cons (pv 15) (pa_cons (pv 7) (pa_cons (pv 16) pa_nil)))) (pa_cons (pe_tup (pa_cons (pv 6) (pa_cons (pv 17) (pa_cons (pv 18) pa_nil)))) (pa_cons (pe_tup (pa_cons (pv 15) (pa_cons (pv 17) (pa_cons (pv 16) pa_nil)))) pa_nil))))) (pg_tup rfl (pgs_cons (pg_name (i := 2) scLaw.nd rfl (.inr rfl)) (pgs_cons (pg_name (i := 3) scLaw.nd rfl (.inr rfl)) (pgs_cons (pg_name (i := 14) scLaw.nd rfl (.inl rfl)) pgs_nil))))
          (pss_one (ps_if (pt_cmpR (op_neD hu) (LamX.pe_lamcall (T := tLaw K) (k := 6) (TT := TSaid K) (t := fun E => tCall (Box (spAlike K CS CT)) [] E (tCons (tVar 2) (tCons (tVar 3) tNil))) (by rfl) T.gS T.FS.kp lk2 hcd2 bS scSaid rfl (.inl rfl) (said_gives T.ST T.GW T.bW T.kW T.gW hr2) TB (congrArg Value.ref ecc.symm) (List.mem_singleton.mpr rfl) (fun p hp _ => by rw [List.mem_singleton.mp hp]; rfl) hr (LamX.lamS_by (sc := defScope sLaw) (by decide +kernel)) rfl (fun _ _ _ _ _ => rfl)
            (fun A outer s H E f c' hrl => pe_call GA hrl (by rfl) T.gA T.kA T.bA .nil (passes_call (takes_of rfl rfl rfl rfl) fun _ _ _ _ z => z) (pa_cons (pv 2) (pa_cons (pv 3) pa_nil)))) (pe_tup (pa_cons pe_str (pa_cons (pv 14) pa_nil))) (nomark _)) (pss_one (ps_ret pe_bl)) pss_nil))))))))))))))
      (pss_one (ps_ret pe_bl)))))), ?_⟩
    have tb0 : LamX.Tabs (tLaw K) H := fun y hy => by
      rw [List.mem_singleton.mp hy]
      exact LamX.TabS.nil hTb
    refine ⟨_, rfl, a, ns, rfl, hS, hn, fun p c ms H1 sm hp0 hp1 hc1 hpc => ?_⟩
    have hP : PenAt H1 p c ms 0 := ⟨0, hp1, hc1, hpc⟩
    have tb1 := tb0.ext sm
    -- two that are unlike
    refine ⟨fun σ H' => ∃ (t u : Addr) (l m : List Int) (n : Int), σ = [some (.ref a), some (.ref p), some (.ref t), some (.ref u), none, none, none, none, none, none, none, none, none, none, none, none, none, none, none] ∧ H' t = some (iv l) ∧ H' u = some (iv m) ∧ l ∈ movedL 1 1 2 1 1 2 ∧ m ∈ movedL 2 0 2 2 0 2 ∧ 0 ≤ n ∧ n ≤ 2 ∧ PenAt H' p c ms n ∧ LamX.Tabs (tLaw K) H', ?_, fun σ H2 hM => ?_⟩
    · refine ⟨_, rfl, by show 6 ≤ sizeLine; decide, fun t1 h1 => ?_⟩
      have a1 := same_upd (o := iv [1, 1, 2, 1, 1, 2]) h1
      refine ⟨p, c, ms, 0, t1, 1, 1, 2, 1, 1, 2, rfl, hP.same a1, by decide, by decide, upd_same, fun r1 l n1 G1 hl x0 x1 p1 s1 hr1 => ?_⟩
      refine ⟨_, rfl, by show 6 ≤ sizeLine; decide, fun t2 h2 => ?_⟩
      have a2 := same_upd (o := iv [2, 0, 2, 2, 0, 2]) h2
      refine ⟨p, c, ms, n1, t2, 2, 0, 2, 2, 0, 2, rfl, p1.same a2, by omega, by omega, upd_same, fun r2 m n2 G2 hm y0 y1 p2 s2 hr2 => ?_⟩
      refine ⟨by show 2 ≤ sizeLine; decide, fun t ht => ⟨t, _, rfl, SqT.of upd_same, rfl, _, _, rfl, _, _, rfl, rfl, ?_⟩⟩
      have a3 := same_upd (o := .tup [.ref r1, .ref r2]) ht
      have hr1' := s2 _ _ (pen_tup (H' := H) (p1.same a2) (a2 _ _ hr1)) (a2 _ _ hr1)
      exact ⟨r1, r2, l, m, n2, rfl, a3 _ _ hr1', a3 _ _ hr2, hl, hm, by omega, by omega, p2.same a3, (tabs_but ((tabs_but (tb1.ext a1) (hP.same a1) s1).ext a2) (p1.same a2) s2).ext a3⟩
    obtain ⟨t, u, l, m, n, rfl, ht, hu', hl, hm, x0, x1, p2, tb2⟩ := hM
    obtain ⟨v1, k1⟩ := one_ok l hl
    obtain ⟨v2, k2⟩ := two_ok m hm
    obtain ⟨a1, b1, c1, d1, e1, g1, rfl, w1⟩ := v6L v1
    obtain ⟨a2, b2, c2, d2, e2', g2, rfl, w2⟩ := v6L v2
    refine ⟨fun σ H' => σ = [some (.ref a), some (.ref p), some (.ref t), some (.ref u), none, none, none, none, none, none, none, none, none, none, none, none, none, none, none] ∧ Same H2 H', ?_, fun σ H3 hM => ?_⟩
    · refine ⟨_, rfl, _, rfl, ⟨alike_good ht w1 hu' w2 fun L1 L2 M1 M2 H3 s3 l1 l2 m1 m2 => ?_⟩⟩
      have ne := unlike k1 k2 l2 m2
      refine ⟨_, false, rfl, rfl, _, rfl, ?_⟩
      rw [decide_eq_false ne, Bool.and_false]
      refine iteF ?_
      refine ⟨_, rfl, _, rfl, ⟨alike_good (s3 _ _ hu') w2 (s3 _ _ ht) w1 fun L1 L2 M1 M2 H4 s4 l1 l2 m1 m2 => ?_⟩⟩
      have ne : L2 ≠ M2 := fun z => unlike k1 k2 m2 l2 z.symm
      refine ⟨_, false, rfl, rfl, _, rfl, ?_⟩
      rw [decide_eq_false ne, Bool.and_false]
      exact iteF ⟨rfl, s3.trans s4⟩
    obtain ⟨rfl, s3⟩ := hM
    refine ⟨8, rfl, by decide, by decide, for_range (n := 8) (fun i σ H' => ∃ (n : Int) (z2 z3 z4 z5 z6 z7 z8 z9 z10 z11 z12 z13 z14 z15 z16 z17 z18 : Option V), σ = [some (.ref a), some (.ref p), z2, z3, z4, z5, z6, z7, z8, z9, z10, z11, z12, z13, z14, z15, z16, z17, z18] ∧ 0 ≤ n ∧ n ≤ 10 + 100 * i ∧ PenAt H' p c ms n ∧ LamX.Tabs (tLaw K) H')
      ⟨n, _, _, _, _, _, _, _, _, _, _, _, _, _, _, _, _, _, rfl, x0, by omega, p2.same s3, tb2.ext s3⟩ (fun i σ H4 hi hW => ?_) (fun σ H4 hW => ?_)⟩
    rotate_left
    · obtain ⟨n, z2, z3, z4, z5, z6, z7, z8, z9, z10, z11, z12, z13, z14, z15, z16, z17, z18, rfl, _⟩ := hW
      exact q _
    clear ht hu' hl hm x0 x1 p2 tb2 v1 k1 v2 k2 w1 w2 s3 n
    obtain ⟨n, z2, z3, z4, z5, z6, z7, z8, z9, z10, z11, z12, z13, z14, z15, z16, z17, z18, rfl, n0, n1, p4, tb4⟩ := hW
    have i8 : i < 8 := hi
    -- the highest, six sizes
    refine ⟨by show 3 ≤ sizeLine; decide, fun l hl => ?_⟩
    have s4 := same_upd (o := .lst (([3, 8, 24] : List Int).map V.int)) hl
    refine ⟨_, rfl, p, c, ms, n, 3, rfl, p4.same s4, n0, by omega, by decide, by decide, fun d n5 H5 d0 d1 x0 x1 p5 s5 => ?_⟩
    obtain ⟨h, hm, ev⟩ := pickI [3, 8, 24] d0 (show d < (3 : Int) from d1)
    have hh : 0 ≤ h ∧ h ≤ 24 := by
      simp only [List.mem_cons, List.not_mem_nil, or_false] at hm
      omega
    refine ⟨l, _, d, _, rfl, rfl, SqL.of (s5 _ _ (PenAt.ne p4 hl) upd_same), ev, ?_⟩
    have tb5 := tabs_but (tb4.ext s4) (p4.same s4) s5
    refine ⟨_, rfl, _, rfl, p, c, ms, n5, h, rfl, p5, by omega, by omega, hh.1, by omega, fun r a1 b1 c1 d1 e1 g1 n6 H6 hv y0 y1 p6 s6 hr' => ?_⟩
    have tb6 := tabs_but tb5 p5 s6
    refine ⟨fun σ H' => ∃ (r : Addr) (a1 b1 c1 d1 e1 g1 n' : Int), σ = [some (.ref a), some (.ref p), z2, z3, some (.int (0 + (i : Nat))), some (.int h), some (.ref r), z7, z8, z9, z10, z11, z12, z13, z14, z15, z16, z17, z18] ∧ H' r = some (iv [a1, b1, c1, d1, e1, g1]) ∧ V6 40 a1 b1 c1 d1 e1 g1 ∧ n ≤ n' ∧ n' ≤ n + 10 ∧ PenAt H' p c ms n' ∧ LamX.Tabs (tLaw K) H', ?_, fun σ H7 hM => ?_⟩
    · refine ⟨_, rfl, p, c, ms, n6, 8, rfl, p6, by omega, by omega, by decide, by decide, fun d n7 H7 _ _ w0 w1 p7 s7 => ?_⟩
      refine ⟨rfl, _, rfl, ite2 (fun _ => ?_) fun _ => ?_⟩
      · refine ⟨_, rfl, p, c, ms, n7, 20, rfl, p7, by omega, by omega, by decide, by decide, fun d n8 H8 d0 d1 w2 w3 p8 s8 => ?_⟩
        refine ⟨2, d, rfl, rfl, .inl ⟨by omega, by omega⟩, by show 1 ≤ sizeLine; decide, fun u hu1 => ?_⟩
        have s9 := same_upd (o := .tup [.int (2 * d)]) hu1
        refine ⟨u, 6, _, rfl, rfl, SqT.of upd_same, (fun z => by cases z), by decide, by decide, by show 1 ≤ 1000; decide, fun r' hr9 => ?_⟩
        have s10 := same_upd (o := iv [2 * d, 2 * d, 2 * d, 2 * d, 2 * d, 2 * d]) hr9
        have s910 := s9.trans s10
        exact ⟨r', _, _, _, _, _, _, n8, rfl, upd_same, v6_same (by omega) (by omega) (by omega), by omega, by omega, p8.same s910, (tabs_but (tabs_but tb6 p6 s7) p7 s8).ext s910⟩
      · exact ⟨r, a1, b1, c1, d1, e1, g1, n7, rfl, s7 _ _ (pen_tup (H' := H) p6 hr') hr', hv.mono (by omega), by omega, by omega, p7, tabs_but tb6 p6 s7⟩
    clear hr' hv y0 y1 p6 s6 tb6 tb5 p5 s5 ev s4 hl p4 tb4
    obtain ⟨r, a1, b1, c1, d1, e1, g1, n7, rfl, hr7, hv, y0, y1, p7, tb7⟩ := hM
    -- another one
    refine ⟨_, rfl, _, rfl, _, rfl, p, c, ms, n7, h, r, a1, b1, c1, d1, e1, g1, rfl, p7, by omega, by omega, hh.1, by omega, hr7, hv, fun r2 a2 b2 c2 d2 e2' g2 n8 H8 hv2 w0 w1 p8 s8 hr2 => ?_⟩
    have hr8 := s8 _ _ (pen_tup (H' := H) p7 hr7) hr7
    have tb8 := tabs_but tb7 p7 s8
    -- both forms
    refine ⟨fun σ H' => (∃ z8 z9 z10 z11 z12 z13 : Option V, σ = [some (.ref a), some (.ref p), z2, z3, some (.int (0 + (i : Nat))), some (.int h), some (.ref r), some (.ref r2), z8, z9, z10, z11, z12, z13, z14, z15, z16, z17, z18]) ∧ Same H8 H', ?_, fun σ H9 hM => ?_⟩
    · refine ⟨_, rfl, _, rfl, by show 2 ≤ sizeLine; decide, fun qa hqa => ⟨qa, rfl, ⟨_, SqT.of upd_same⟩, for_tup (K := K) (a := qa) (xs := [.ref r, .ref r2]) (fun k σ H' => (∃ z8 z9 z10 z11 z12 z13 : Option V, σ = [some (.ref a), some (.ref p), z2, z3, some (.int (0 + (i : Nat))), some (.int h), some (.ref r), some (.ref r2), z8, z9, z10, z11, z12, z13, z14, z15, z16, z17, z18]) ∧ Same (upd H8 qa (.tup [.ref r, .ref r2])) H')
        ⟨⟨_, _, _, _, _, _, rfl⟩, Same.refl _⟩ (fun k σ H' _ z => SqT.of (z.2 _ _ upd_same)) (fun k x σ H' hx z => ?_) (fun σ H' z => ?_)⟩⟩
      rotate_left
      · exact ⟨z.1, (same_upd hqa).trans z.2⟩
      obtain ⟨⟨w8, w9, w10, w11, w12, w13, rfl⟩, sm'⟩ := z
      have s8' := (same_upd (o := .tup [.ref r, .ref r2]) hqa).trans sm'
      obtain ⟨rw', k1, k2, k3, k4, k5, k6, rfl, hw, hvw⟩ : ∃ (rw' : Addr) (k1 k2 k3 k4 k5 k6 : Int), x = .ref rw' ∧ H8 rw' = some (iv [k1, k2, k3, k4, k5, k6]) ∧ V6 40 k1 k2 k3 k4 k5 k6 := by
        match k, hx with
        | 0, hx => exact ⟨r, _, _, _, _, _, _, (Option.some.inj hx).symm, hr8, hv⟩
        | 1, hx => exact ⟨r2, _, _, _, _, _, _, (Option.some.inj hx).symm, hr2, hv2⟩
        | k + 2, hx => cases hx
      refine ⟨rw', _, rfl, SqT.of (s8' _ _ hw), rfl, _, _, rfl, _, _, rfl, _, _, rfl, _, _, rfl, _, _, rfl, _, _, rfl, rfl, ?_⟩
      refine ⟨_, rfl, _, rfl, _, rfl, _, rfl, _, rfl, _, rfl, ⟨forms_good hvw fun r3 L1 L2 H3 s3 l1 l2 f1 => ?_⟩⟩
      have sh := form_small hvw.1 l1 l2
      refine ⟨r3, _, rfl, f1.dp, sh.s, sh.h, sh.dp, sh.z, ?_⟩
      refine ⟨_, rfl, _, rfl, _, rfl, _, rfl, _, rfl, _, rfl, by show 6 ≤ sizeLine; decide, fun t ht => ?_⟩
      have s4 := same_upd (o := iv [k1, k2, k3, k4, k5, k6]) ht
      refine ⟨t, k1, k2, k3, k4, k5, k6, rfl, upd_same, fun r4 M1 M2 H5 s5 _ m1 m2 f2 => ?_⟩
      have e1 := m1.eq l1
      have e2 := m2.eq l2
      subst e1 e2
      refine ⟨r4, _, rfl, f2.dp, sh.s, sh.h, sh.dp, sh.z, rfl, _, rfl, iteNS rfl ?_⟩
      exact ⟨⟨_, _, _, _, _, _, rfl⟩, sm'.trans (s3.trans (s4.trans s5))⟩
    obtain ⟨⟨w8, w9, w10, w11, w12, w13, rfl⟩, s9⟩ := hM
    have hr9 := s9 _ _ hr8
    have hr29 := s9 _ _ hr2
    -- what is due
    refine ⟨_, rfl, r, a1, b1, c1, d1, e1, g1, rfl, hr9, fun r5 L1 L2 H10 s10 _ l1 l2 f1 => ?_⟩
    refine ⟨_, rfl, r2, a2, b2, c2, d2, e2', g2, rfl, s10 _ _ hr29, fun r6 M1 M2 H11 s11 _ m1 m2 f2 => ?_⟩
    refine ⟨_, _, (f1.same s11).dp, f2.dp, form_shaped _ _, form_shaped _ _, ?_⟩
    rw [form_eqv]
    have s911 := s9.trans (s10.trans s11)
    have hr11 := s911 _ _ hr8
    have hr211 := s911 _ _ hr2
    refine ⟨fun σ H' => σ = [some (.ref a), some (.ref p), z2, z3, some (.int (0 + (i : Nat))), some (.int h), some (.ref r), some (.ref r2), w8, w9, w10, w11, w12, w13, some (.bl (decide (L1 = M1) && decide (L2 = M2))), z15, z16, z17, z18] ∧ Same H8 H', ?_, fun σ H12 hM => ?_⟩
    · refine ⟨_, rfl, _, rfl, ⟨alike_good hr11 hv hr211 hv2 fun N1 N2 O1 O2 H12 s12 n1' n2' o1 o2 => ?_⟩⟩
      have e1 := n1'.eq l1
      have e2 := n2'.eq l2
      have e3 := o1.eq m1
      have e4 := o2.eq m2
      subst e1 e2 e3 e4
      refine ⟨_, rfl, _, rfl, _, rfl, rfl, _, rfl, iteNS rfl ?_⟩
      refine ⟨_, rfl, _, rfl, ⟨alike_good (s12 _ _ hr211) hv2 (s12 _ _ hr11) hv fun P1 P2 R1 R2 H13 s13 q1 q2 t1 t2 => ?_⟩⟩
      have e1 := q1.eq m1
      have e2 := q2.eq m2
      have e3 := t1.eq l1
      have e4 := t2.eq l2
      subst e1 e2 e3 e4
      refine ⟨_, rfl, _, rfl, _, rfl, rfl, _, rfl, iteNS ?_ ?_⟩
      · rw [show decide (P1 = R1) = decide (R1 = P1) from decide_eq_decide.mpr eq_comm, show decide (P2 = R2) = decide (R2 = P2) from decide_eq_decide.mpr eq_comm]
      · exact ⟨rfl, s911.trans (s12.trans s13)⟩
    obtain ⟨rfl, s12⟩ := hM
    clear f1 f2 s911 hr11 hr211 s10 s11 s9 hr9 hr29
    have hr12 := s12 _ _ hr8
    have hr212 := s12 _ _ hr2
    have p12 := p8.same s12
    -- what is refused
    refine ⟨_, rfl, _, rfl, p, c, ms, n8, r, a1, b1, c1, d1, e1, g1, rfl, p12, by omega, by omega, hr12, hv, fun x n13 H13 hx w2 w3 p13 s13 => ?_⟩
    obtain ⟨rb, vb, wb, rfl, hrb, hbad⟩ := hx
    refine ⟨rb, _, rfl, SqT.of hrb, rfl, _, _, rfl, _, _, rfl, rfl, ?_⟩
    have hr213 := s13 _ _ (pen_tup (H' := H) p12 hr212) hr212
    have hr13 := s13 _ _ (pen_tup (H' := H) p12 hr12) hr12
    refine ⟨_, rfl, _, rfl, p, c, ms, n13, r2, a2, b2, c2, d2, e2', g2, rfl, p13, by omega, by omega, hr213, hv2, fun x n14 H14 hx w4 w5 p14 s14 => ?_⟩
    obtain ⟨rc, vc, wc, rfl, hrc, hcad⟩ := hx
    refine ⟨rc, _, rfl, SqT.of hrc, rfl, _, _, rfl, _, _, rfl, rfl, ?_⟩
    have hr14 := s14 _ _ (pen_tup (H' := H) p13 hr13) hr13
    have hbad14 := hbad.keep (Keep.pen p13 p14 s14)
    have tb14 := tabs_but (tabs_but (tb8.ext s12) p12 s13) p13 s14
    refine ⟨_, rfl, _, rfl, _, rfl, by show 3 ≤ sizeLine; decide, fun q1 hq1 => ?_⟩
    have b1' := same_upd (o := .tup [vb, .ref r2, .str wb]) hq1
    refine ⟨_, rfl, _, rfl, _, rfl, by show 3 ≤ sizeLine; decide, fun q2 hq2 => ?_⟩
    have b2' := same_upd (o := .tup [.ref r, vc, .str wc]) hq2
    refine ⟨_, rfl, _, rfl, _, rfl, by show 3 ≤ sizeLine; decide, fun q3 hq3 => ?_⟩
    have b3' := same_upd (o := .tup [vb, vc, .str wb]) hq3
    refine ⟨by show 3 ≤ sizeLine; decide, fun q4 hq4 => ?_⟩
    have b4' := same_upd (o := .lst [.ref q1, .ref q2, .ref q3]) hq4
    have b14' := (b1'.trans b2').trans (b3'.trans b4')
    obtain ⟨G, eG⟩ : ∃ G : Hp, upd (upd (upd (upd H14 q1 (.tup [vb, .ref r2, .str wb])) q2 (.tup [.ref r, vc, .str wc])) q3 (.tup [vb, vc, .str wb])) q4 (.lst [.ref q1, .ref q2, .ref q3]) = G := ⟨_, rfl⟩
    have hGl : G q4 = some (.lst [.ref q1, .ref q2, .ref q3]) := by
      rw [← eG]
      exact upd_same
    have hA : ∀ (k : Nat) (x : V), ([.ref q1, .ref q2, .ref q3] : List V)[k]? = some x → ∃ (qk : Addr) (u v : V) (w : Str), x = .ref qk ∧ G qk = some (.tup [u, v, .str w]) ∧ Ask K CS CT G u v w := by
      intro k x hx
      have kG : Keep K H14 G := by
        rw [← eG]
        exact Keep.of b14'
      match k, hx with
      | 0, hx => exact ⟨q1, _, _, _, (Option.some.inj hx).symm, by rw [← eG]; exact (b2'.trans (b3'.trans b4')) _ _ upd_same, ask1 (hbad14.keep kG)⟩
      | 1, hx => exact ⟨q2, _, _, _, (Option.some.inj hx).symm, by rw [← eG]; exact (b3'.trans b4') _ _ upd_same, ask2 (kG.tp hr14) hv (hcad.keep kG)⟩
      | 2, hx => exact ⟨q3, _, _, _, (Option.some.inj hx).symm, by rw [← eG]; exact b4' _ _ upd_same, ask1 (hbad14.keep kG)⟩
      | k + 3, hx => cases hx
    have pG : PenAt G p c ms n14 := by
      rw [← eG]
      exact p14.same b14'
    have tG : LamX.Tabs (tLaw K) G := by
      rw [← eG]
      exact tb14.ext b14'
    rw [eG]
    refine ⟨q4, rfl, ⟨_, SqL.of hGl⟩, for_list (K := K) (a := q4) (xs := [.ref q1, .ref q2, .ref q3]) (fun k σ H' => (∃ z2 z3 z14 : Option V, σ = [some (.ref a), some (.ref p), z2, z3, some (.int (0 + (i : Nat))), some (.int h), some (.ref r), some (.ref r2), w8, w9, w10, w11, w12, w13, z14, some vb, some (.str wb), some vc, some (.str wc)]) ∧ LamX.ExtN G H' ∧ PenAt H' p c ms n14 ∧ LamX.Tabs (tLaw K) H')
        ⟨⟨_, _, _, rfl⟩, LamX.ExtN.refl _, pG, tG⟩ (fun k σ H' _ z => SqL.of (z.2.1 _ _ hGl (fun _ y => by cases y))) (fun k x σ H' hx z => ?_) (fun σ H' z => ?_)⟩
    rotate_left
    · obtain ⟨⟨y2, y3, y14, rfl⟩, _, pz, tz⟩ := z
      refine ⟨n14, _, _, _, _, _, _, _, _, _, _, _, _, _, _, _, _, _, rfl, by omega, ?_, pz, tz⟩
      have : (((i + 1 : Nat)) : Int) = (i : Int) + 1 := by omega
      omega
    obtain ⟨⟨y2, y3, y14, rfl⟩, eN, pz, tz⟩ := z
    obtain ⟨qk, u1, v1, wk, rfl, hqk, hword, hask⟩ := hA k x hx
    refine ⟨qk, _, rfl, SqT.of (eN _ _ hqk (fun _ y => by cases y)), rfl, _, _, rfl, _, _, rfl, _, _, rfl, rfl, ?_⟩
    refine ⟨tz, fun H15 eN2 T15 H16 s16 => ?_⟩
    have fin : ∀ (pp : Addr) (H18 : Hp), Same H16 H18 → H18 pp = some (.tup [.str "refused", .str wk]) → ∀ t, H18 t = none → ∃ d e, Dp K (upd H18 t (.tup [.str "refused", .str wk])) (.ref pp) d ∧ Dp K (upd H18 t (.tup [.str "refused", .str wk])) (.ref t) e ∧ SeqAt.shaped d = true ∧ SeqAt.shaped e = true ∧ PyData.eqv d e = true := fun pp H18 s18 hpp t ht => by
      have s19 := same_upd (o := .tup [.str "refused", .str wk]) ht
      exact ⟨dRefW wk, dRefW wk, dp_refW (s19 _ _ hpp), dp_refW upd_same, (dRefW_ok hword).1, (dRefW_ok hword).1, (dRefW_ok hword).2⟩
    refine ⟨_, rfl, _, rfl, ⟨hask H16 _ _ (Keep.extN ((eN.trans eN2).trans (LamX.ExtN.of s16))) ⟨fun ew H17 s17 => ?_, fun ew H17 s17 => ?_⟩⟩⟩
    · subst ew
      refine ⟨CS, 9, rfl, rfl, T.kdS, by decide, T.hxS, fun pp H18 s18 hpp => ?_⟩
      refine ⟨_, rfl, by show 2 ≤ sizeLine; decide, fun t ht => ?_⟩
      obtain ⟨d, e, f1, f2, f3, f4, f5⟩ := fin pp H18 (s17.trans s18) hpp t ht
      refine ⟨d, e, f1, f2, f3, f4, _, rfl, ?_⟩
      rw [f5]
      have sE := ((s16.trans s17).trans s18).trans (same_upd (o := .tup [.str "refused", .str "size"]) ht)
      exact iteF ⟨⟨_, _, _, rfl⟩, (eN.trans eN2).trans (LamX.ExtN.of sE), (pz.extN eN2).same sE, T15.ext sE⟩
    · subst ew
      refine ⟨CT, 15, rfl, rfl, T.kdT, by decide, T.hxT, fun pp H18 s18 hpp => ?_⟩
      refine ⟨_, rfl, by show 2 ≤ sizeLine; decide, fun t ht => ?_⟩
      obtain ⟨d, e, f1, f2, f3, f4, f5⟩ := fin pp H18 (s17.trans s18) hpp t ht
      refine ⟨d, e, f1, f2, f3, f4, _, rfl, ?_⟩
      rw [f5]
      have sE := ((s16.trans s17).trans s18).trans (same_upd (o := .tup [.str "refused", .str "triple"]) ht)
      exact iteF ⟨⟨_, _, _, rfl⟩, (eN.trans eN2).trans (LamX.ExtN.of sE), (pz.extN eN2).same sE, T15.ext sE⟩
end
end TC
namespace TC
open PySem PySem.Spec PyProof.Rows L2 TCA TCX
theorem facts {P : Program} {w : World} {K : PySem.W.Frag} {h : Heap} {mg : Str → Option Value} {f : Addr} (X : K.In h) (G : h.Ns mainGlobals mg) (hfa : mg ("law" : Str) = some (.ref f)) (sx : He.SaysX fa fn [] tf exB w h K) :
    ∃ fd : FuncData, (∀ (s : Shared) (v : Value), BindsTo s fd ⟨[v], []⟩ [("_law_script", v)]) ∧ ∀ base : Heap, K.In base → base.Ns mainGlobals mg → LamX.TabB base mg (He.cT K ("law", none)).1 (He.cT K ("law", none)).2 → FnG P w K mg base CX0 9 f fd ["_law_script"] (spLaw K) := by
  have c := sx.t.d
  obtain ⟨fd0, F0⟩ := c.def_ 0 (d := dd "is_whole" sWhole) rfl
  obtain ⟨fd1, F1⟩ := c.def_ 1 (d := dd "is_odd" sOdd) rfl
  obtain ⟨fd2, F2⟩ := c.def_ 2 (d := dd "is_size" sIsSize) rfl
  obtain ⟨fd3, F3⟩ := c.def_ 3 (d := dd "need_sizes" sNeed) rfl
  obtain ⟨fd4, F4⟩ := c.def_ 4 (d := dd "can_join" sCanJoin) rfl
  obtain ⟨fd5, F5⟩ := c.def_ 5 (d := dd "forms_of" sForms) rfl
  obtain ⟨fd6, F6⟩ := c.def_ 6 (d := dd "alike_sixes" sAlike) rfl
  obtain ⟨fd7, F7⟩ := c.def_ 7 (d := dd "triangles_of" sTri) rfl
  obtain ⟨fd8, F8⟩ := c.def_ 8 (d := dd "first_not_joined" sFirst) rfl
  obtain ⟨fd9, F9⟩ := c.def_ 9 (d := dd "form_of" sForm) rfl
  obtain ⟨fd10, F10⟩ := c.def_ 10 (d := dd "form_of_tuple" sFormT) rfl
  obtain ⟨fd11, F11⟩ := c.def_ 11 (d := dd "_law_pen" sPen) rfl
  obtain ⟨fd12, F12⟩ := c.def_ 12 (d := dd "_law_draw" sDraw) rfl
  obtain ⟨fd13, F13⟩ := c.def_ 13 (d := dd "_law_word" sWord) rfl
  obtain ⟨fd14, F14⟩ := c.def_ 14 (d := dd "_law_said" sSaid) rfl
  obtain ⟨fd15, F15⟩ := c.def_ 15 (d := dd "_law_fits" sFits) rfl
  obtain ⟨fd16, F16⟩ := c.def_ 16 (d := dd "_law_third" sThird) rfl
  obtain ⟨fd17, F17⟩ := c.def_ 17 (d := dd "_law_odd" sOddL) rfl
  obtain ⟨fd18, F18⟩ := c.def_ 18 (d := dd "_law_sizes" sSizesL) rfl
  obtain ⟨fd19, F19⟩ := c.def_ 19 (d := dd "_law_triples" sTriples) rfl
  obtain ⟨fd20, F20⟩ := c.def_ 20 (d := dd "_law_halved" sHalved) rfl
  obtain ⟨fd21, F21⟩ := c.def_ 21 (d := dd "_law_all_fit" sAllFit) rfl
  obtain ⟨fd22, F22⟩ := c.def_ 22 (d := dd "_law_six_sizes" sSix) rfl
  obtain ⟨fd23, F23⟩ := c.def_ 23 (d := dd "_law_moved" sMoved) rfl
  obtain ⟨fd24, F24⟩ := c.def_ 24 (d := dd "_law_good" sGood) rfl
  obtain ⟨fd25, F25⟩ := c.def_ 25 (d := dd "_law_form" sFormL) rfl
  obtain ⟨fd26, F26⟩ := c.def_ 26 (d := dd "_law_other" sOther) rfl
  obtain ⟨fd27, F27⟩ := c.def_ 27 (d := dd "_law_wrong" sWrong) rfl
  obtain ⟨fd28, F28⟩ := c.def_ 28 (d := dd "law" sLaw) rfl
  have glo : ∀ (i : Nat) (x : Str), TC.fa[i]? = some (.glo x) → mg x = some (.ref (He.ga K x)) := fun i x e => He.glo_ok X G (c.fact i (f := .glo x) e)
  have free : ∀ (i : Nat) (x : Str), TC.fa[i]? = some (.free x) → mg x = none := fun i x e => He.free_ok X G (c.fact i (f := .free x) e)
  obtain ⟨t_HIGHEST_SIZE, g_HIGHEST_SIZE⟩ := He.int_ok X G (c.fact 52 (f := .int "HIGHEST_SIZE" 40) rfl)
  obtain ⟨xE_NoSize, xK_NoSize, xB_NoSize, xT_NoSize⟩ := He.exc_ok (c.fact 53 (f := .exc "NoSize") rfl)
  have XT_NoSize : XTxt K mg "NoSize" (He.ga K "NoSize") := ⟨(glo 2 "NoSize" rfl), xE_NoSize, xK_NoSize, xB_NoSize, xT_NoSize⟩
  obtain ⟨xE_NoTriple, xK_NoTriple, xB_NoTriple, xT_NoTriple⟩ := He.exc_ok (c.fact 54 (f := .exc "NoTriple") rfl)
  have XT_NoTriple : XTxt K mg "NoTriple" (He.ga K "NoTriple") := ⟨(glo 4 "NoTriple" rfl), xE_NoTriple, xK_NoTriple, xB_NoTriple, xT_NoTriple⟩
  obtain ⟨m1, m2⟩ := He.ba sx.more
  obtain ⟨kdS, hxS⟩ := excAll_ok m1
  obtain ⟨kdT, hxT⟩ := excAll_ok m2
  have WT : WTxt K mg := ⟨fun i x e => ?_, (glo 0 "TurnError" rfl), (free 65 "ValueError" rfl), (free 55 "isinstance" rfl)⟩
  rotate_left
  · match i, e with
    | 0, e => cases e; exact glo 16 "Empty" rfl
    | 1, e => cases e; exact glo 14 "NoDeed" rfl
    | 2, e => cases e; exact glo 12 "NoHalf" rfl
    | 3, e => cases e; exact glo 13 "NoLinking" rfl
    | 4, e => cases e; exact glo 7 "NoNet" rfl
    | 5, e => cases e; exact glo 1 "NoNumber" rfl
    | 6, e => cases e; exact glo 3 "NoOffset" rfl
    | 7, e => cases e; exact glo 15 "NoQuestion" rfl
    | 8, e => cases e; exact glo 8 "NoRow" rfl
    | 9, e => cases e; exact glo 2 "NoSize" rfl
    | 10, e => cases e; exact glo 9 "NoStanding" rfl
    | 11, e => cases e; exact glo 5 "NoTable" rfl
    | 12, e => cases e; exact glo 18 "NoText" rfl
    | 13, e => cases e; exact glo 17 "NotParted" rfl
    | 14, e => cases e; exact glo 10 "NoTree" rfl
    | 15, e => cases e; exact glo 4 "NoTriple" rfl
    | 16, e => cases e; exact glo 11 "NoWay" rfl
    | 17, e => cases e; exact glo 6 "TooWide" rfl
    | 18, e => cases e; exact glo 21 "ByNought" rfl
    | 19, e => cases e; exact glo 19 "NoName" rfl
    | 20, e => cases e; exact glo 20 "NoPlace" rfl
    | 21, e => cases e; exact glo 22 "NothingDone" rfl
    | n + 22, e =>
      have z : ([] : List Str)[n]? = some x := e
      cases z
  have ST : STxt K mg := ⟨(glo 0 "TurnError" rfl), (glo 21 "ByNought" rfl), (glo 19 "NoName" rfl), (glo 20 "NoPlace" rfl), (glo 22 "NothingDone" rfl)⟩
  have e := hfa.symm.trans (glo 51 "law" rfl)
  cases e
  have b0 := FunD.bindsN (ps := ["thing"]) F0 fun _ _ _ _ _ _ us hl => match us, hl with | [_], _ => rfl
  have b1 := FunD.bindsN (ps := ["number"]) F1 fun _ _ _ _ _ _ us hl => match us, hl with | [_], _ => rfl
  have b2 := FunD.bindsN (ps := ["thing"]) F2 fun _ _ _ _ _ _ us hl => match us, hl with | [_], _ => rfl
  have b3 := FunD.bindsN (ps := ["things"]) F3 fun _ _ _ _ _ _ us hl => match us, hl with | [_], _ => rfl
  have b4 := FunD.bindsN (ps := ["one", "other", "third"]) F4 fun _ _ _ _ _ _ us hl => match us, hl with | [_, _, _], _ => rfl
  have b5 := FunD.bindsN (ps := ["a", "b", "c", "d", "e", "f"]) F5 fun _ _ _ _ _ _ us hl => match us, hl with | [_, _, _, _, _, _], _ => rfl
  have b6 := FunD.bindsN (ps := ["sizes", "others"]) F6 fun _ _ _ _ _ _ us hl => match us, hl with | [_, _], _ => rfl
  have b7 := FunD.bindsN (ps := ["sizes"]) F7 fun _ _ _ _ _ _ us hl => match us, hl with | [_], _ => rfl
  have b8 := FunD.bindsN (ps := ["triples"]) F8 fun _ _ _ _ _ _ us hl => match us, hl with | [_], _ => rfl
  have b9 := FunD.bindsN (ps := ["sizes"]) F9 fun _ _ _ _ _ _ us hl => match us, hl with | [_], _ => rfl
  have b10 := FunD.bindsN (ps := ["sizes"]) F10 fun _ _ _ _ _ _ us hl => match us, hl with | [_], _ => rfl
  have b11 := FunD.bindsN (ps := ["_law_script"]) F11 fun _ _ _ _ _ _ us hl => match us, hl with | [_], _ => rfl
  have b12 := FunD.bindsN (ps := ["_law_pen_here", "_law_many"]) F12 fun _ _ _ _ _ _ us hl => match us, hl with | [_, _], _ => rfl
  have b13 := FunD.bindsN (ps := ["_law_e"]) F13 fun _ _ _ _ _ _ us hl => match us, hl with | [_], _ => rfl
  have b14 := FunD.bindsN (ps := ["_law_call"]) F14 fun _ _ _ _ _ _ us hl => match us, hl with | [_], _ => rfl
  have b15 := FunD.bindsN (ps := ["_law_a", "_law_b", "_law_c"]) F15 fun _ _ _ _ _ _ us hl => match us, hl with | [_, _, _], _ => rfl
  have b16 := FunD.bindsN (ps := ["_law_pen_here", "_law_a", "_law_b", "_law_high"]) F16 fun _ _ _ _ _ _ us hl => match us, hl with | [_, _, _, _], _ => rfl
  have b17 := FunD.bindsN (ps := ["_law_pen_here"]) F17 fun _ _ _ _ _ _ us hl => match us, hl with | [_], _ => rfl
  have b18 := FunD.bindsN (ps := ["_law_pen_here", "_law_high"]) F18 fun _ _ _ _ _ _ us hl => match us, hl with | [_, _], _ => rfl
  have b19 := FunD.bindsN (ps := ["_law_sizes_here"]) F19 fun _ _ _ _ _ _ us hl => match us, hl with | [_], _ => rfl
  have b20 := FunD.bindsN (ps := ["_law_sizes_here"]) F20 fun _ _ _ _ _ _ us hl => match us, hl with | [_], _ => rfl
  have b21 := FunD.bindsN (ps := ["_law_sizes_here"]) F21 fun _ _ _ _ _ _ us hl => match us, hl with | [_], _ => rfl
  have b22 := FunD.bindsN (ps := ["_law_pen_here", "_law_high"]) F22 fun _ _ _ _ _ _ us hl => match us, hl with | [_, _], _ => rfl
  have b23 := FunD.bindsN (ps := ["_law_pen_here", "_law_sizes_here"]) F23 fun _ _ _ _ _ _ us hl => match us, hl with | [_, _], _ => rfl
  have b24 := FunD.bindsN (ps := ["_law_pen_here", "_law_high"]) F24 fun _ _ _ _ _ _ us hl => match us, hl with | [_, _], _ => rfl
  have b25 := FunD.bindsN (ps := ["_law_sizes_here"]) F25 fun _ _ _ _ _ _ us hl => match us, hl with | [_], _ => rfl
  have b26 := FunD.bindsN (ps := ["_law_pen_here", "_law_sizes_here", "_law_high"]) F26 fun _ _ _ _ _ _ us hl => match us, hl with | [_, _, _], _ => rfl
  have b27 := FunD.bindsN (ps := ["_law_pen_here", "_law_sizes_here"]) F27 fun _ _ _ _ _ _ us hl => match us, hl with | [_, _], _ => rfl
  have b := FunD.bindsA (ps := ["_law_script"]) F28 fun _ _ _ _ _ _ us hl => match us, hl with | [_], _ => rfl
  refine ⟨fd28, fun s v => b s [v] rfl, fun base _ _ TB => ?_⟩
  have GW : FnOk P w K mg base CX0 1 _ fd0 ["thing"] (spWhole K) := ok_whole F0 (free 55 "isinstance" rfl) (free 56 "int" rfl) (free 57 "bool" rfl)
  have GO : FnOk P w K mg base CX0 1 _ fd1 ["number"] spOdd := ok_odd F1 
  have GIS : FnOk P w K mg base CX0 2 _ fd2 ["thing"] (spIsSize K) := ok_isSize F2 GW b0 F0.kp (glo 23 "is_whole" rfl) g_HIGHEST_SIZE
  have GN : FnOk P w K mg base (L2.CX P w) 3 _ fd3 ["things"] (spNeedT K (He.ga K "NoSize")) := ok_needT F3 GIS b2 F2.kp (glo 25 "is_size" rfl) XT_NoSize
  have GC : FnOk P w K mg base CX0 2 _ fd4 ["one", "other", "third"] spCan := ok_can F4 GO b1 F1.kp (glo 24 "is_odd" rfl)
  have GT : FnOk P w K mg base CX0 1 _ fd7 ["sizes"] spTri := ok_tri F7 
  have GJ : FnOk P w K mg base CX0 3 _ fd8 ["triples"] spFirst := ok_first F8 GC b4 F4.kp (glo 27 "can_join" rfl) (free 69 "enumerate" rfl)
  have GFo : FnOk P w K mg base CX0 2 _ fd9 ["sizes"] spForm := ok_form F9 GT b7 F7.kp (glo 30 "triangles_of" rfl) (free 66 "sum" rfl) (free 67 "sorted" rfl) (free 68 "tuple" rfl)
  have GF : FnOk P w K mg base (L2.CX P w) 4 _ fd5 ["a", "b", "c", "d", "e", "f"] (spForms K (He.ga K "NoSize") (He.ga K "NoTriple")) := ok_forms F5 XT_NoTriple GN b3 F3.kp (glo 26 "need_sizes" rfl) GT b7 F7.kp (glo 30 "triangles_of" rfl) GJ b8 F8.kp (glo 31 "first_not_joined" rfl) GFo b9 F9.kp (glo 32 "form_of" rfl)
  have GFT : FnOk P w K mg base (L2.CX P w) 5 _ fd10 ["sizes"] (spFormT K (He.ga K "NoSize") (He.ga K "NoTriple")) := ok_formT F10 XT_NoTriple GF b5 F5.kp (glo 28 "forms_of" rfl) (free 55 "isinstance" rfl) (free 68 "tuple" rfl) (free 63 "len" rfl)
  have GA : FnOk P w K mg base (L2.CX P w) 6 _ fd6 ["sizes", "others"] (spAlike K (He.ga K "NoSize") (He.ga K "NoTriple")) := ok_alike F6 GFT b10 F10.kp (glo 33 "form_of_tuple" rfl)
  have GP : FnOk P w K mg base CX0 1 _ fd11 ["_law_script"] (spPen K) := ok_pen F11 (free 61 "list" rfl)
  have GD : FnOk P w K mg base CX0 1 _ fd12 ["_law_pen_here", "_law_many"] spDraw := ok_draw F12 (free 63 "len" rfl)
  have GWD : FnOk P w K mg base CX0 1 _ fd13 ["_law_e"] (spWord K) := ok_word F13 WT
  have GFI : FnOk P w K mg base CX0 1 _ fd15 ["_law_a", "_law_b", "_law_c"] spFits := ok_fits F15 
  have GTH : FnOk P w K mg base CX0 2 _ fd16 ["_law_pen_here", "_law_a", "_law_b", "_law_high"] spThird := ok_third F16 GD b12 F12.kp (glo 35 "_law_draw" rfl) GFI b15 F15.kp (glo 38 "_law_fits" rfl) (free 62 "range" rfl) (free 56 "int" rfl) (free 58 "abs" rfl) (free 63 "len" rfl)
  have GOD : FnOk P w K mg base CX0 2 _ fd17 ["_law_pen_here"] (spOddL K) := ok_oddL F17 GD b12 F12.kp (glo 35 "_law_draw" rfl)
  have GTR : FnOk P w K mg base CX0 1 _ fd19 ["_law_sizes_here"] spTriples := ok_triples F19 
  have GH : FnOk P w K mg base CX0 2 _ fd20 ["_law_sizes_here"] spHalved := ok_halved F20 GTR b19 F19.kp (glo 42 "_law_triples" rfl) (free 66 "sum" rfl)
  have GL : FnOk P w K mg base CX0 3 _ fd25 ["_law_sizes_here"] spForm := ok_formL F25 GH b20 F20.kp (glo 43 "_law_halved" rfl) (free 67 "sorted" rfl) (free 68 "tuple" rfl)
  have GAF : FnOk P w K mg base CX0 2 _ fd21 ["_law_sizes_here"] spAllFit := ok_allFit F21 GTR b19 F19.kp (glo 42 "_law_triples" rfl) GFI b15 F15.kp (glo 38 "_law_fits" rfl)
  have GSZ : FnOk P w K mg base CX0 3 _ fd18 ["_law_pen_here", "_law_high"] spSizesL := ok_sizesL F18 GD b12 F12.kp (glo 35 "_law_draw" rfl) GTH b16 F16.kp (glo 39 "_law_third" rfl)
  have GM : FnOk P w K mg base CX0 2 _ fd23 ["_law_pen_here", "_law_sizes_here"] spMoved := ok_moved F23 GD b12 F12.kp (glo 35 "_law_draw" rfl)
  have GSX : FnOk P w K mg base CX0 4 _ fd22 ["_law_pen_here", "_law_high"] spSix := ok_six F22 GD b12 F12.kp (glo 35 "_law_draw" rfl) GTH b16 F16.kp (glo 39 "_law_third" rfl) GFI b15 F15.kp (glo 38 "_law_fits" rfl) GSZ b18 F18.kp (glo 41 "_law_sizes" rfl) (free 62 "range" rfl) (free 63 "len" rfl)
  have GG : FnOk P w K mg base CX0 5 _ fd24 ["_law_pen_here", "_law_high"] spGood := ok_good F24 GSX b22 F22.kp (glo 45 "_law_six_sizes" rfl) GAF b21 F21.kp (glo 44 "_law_all_fit" rfl)
  have GOT : FnOk P w K mg base CX0 6 _ fd26 ["_law_pen_here", "_law_sizes_here", "_law_high"] spOther := ok_other F26 GD b12 F12.kp (glo 35 "_law_draw" rfl) GG b24 F24.kp (glo 47 "_law_good" rfl) GM b23 F23.kp (glo 46 "_law_moved" rfl) GAF b21 F21.kp (glo 44 "_law_all_fit" rfl) (free 62 "range" rfl) (free 56 "int" rfl) (free 60 "max" rfl)
  have GB : FnOk P w K mg base CX0 6 _ fd27 ["_law_pen_here", "_law_sizes_here"] (spWrong K) := ok_wrong F27 GD b12 F12.kp (glo 35 "_law_draw" rfl) GOD b17 F17.kp (glo 40 "_law_odd" rfl) (free 61 "list" rfl) (free 56 "int" rfl)
  exact ok_law F28 ⟨GP, b11, F11.kp, (glo 34 "_law_pen" rfl), GD, b12, F12.kp, (glo 35 "_law_draw" rfl), GM, b23, F23.kp, (glo 46 "_law_moved" rfl), GG, b24, F24.kp, (glo 47 "_law_good" rfl), GOT, b26, F26.kp, (glo 49 "_law_other" rfl), GF, b5, F5.kp, (glo 28 "forms_of" rfl), GL, b25, F25.kp, (glo 48 "_law_form" rfl), GA, b6, F6.kp, (glo 29 "alike_sixes" rfl), GB, b27, F27.kp, (glo 50 "_law_wrong" rfl), F14, b14, (glo 37 "_law_said" rfl), GWD, b13, F13.kp, (glo 36 "_law_word" rfl), ST, kdS, hxS, kdT, hxT, (free 62 "range" rfl), (free 64 "repr" rfl)⟩ TB
end TC
open PySem PySem.W PySem.Calls PyProof.Rows
set_option maxHeartbeats 0 in
theorem PySem.Challenge.cw_turncouple_k23_forms_of_sixes_holds : PySem.Challenge.rw_turncouple_k23_forms_of_sixes.Holds := by
  w_on; o_law
  refine HandSHeadRun.head_any (r := OpenLaw.row PySem.Challenge.rw_turncouple_k23_forms_of_sixes) (q := view (OpenLaw.row PySem.Challenge.rw_turncouple_k23_forms_of_sixes).prog [57]) (H := TC.hk) (ob := TC.ob) (M := 30000) (loose := TC.loose) (d := HandSHeadRun.topDef (OpenLaw.row PySem.Challenge.rw_turncouple_k23_forms_of_sixes).prog 57) (kwd := []) TC.ob_eq
    (by kernel_rfl) (fun s => by kernel_rfl) TC.run (by kernel_rfl) (by kernel_rfl) (by kernel_rfl) (by rfl) (by first | assumption | decide +kernel) (by decide +kernel) ⟨rfl, rfl, rfl, rfl, rfl, by decide +kernel⟩ ?hw ?hc
  case hw => w_witness2
  case hc =>
    refine TCX.walk_ofG (l := PySem.Challenge.rw_turncouple_k23_forms_of_sixes) (n := 63) (k := 9) (x := "_law_script") (CX := fun _ => L2.CX0) rfl (by decide) (by kernel_rfl) ⟨rfl, by decide, by decide⟩ ?F (fun _ _ _ _ _ z => z)
    intro w mg fa h Y G hmg0
    obtain ⟨K, KX, sx⟩ := Y
    have hmg : mg ("law" : PySem.Str) = some (.ref fa) := by
      have e : (HandSHeadRun.topDef (OpenLaw.row PySem.Challenge.rw_turncouple_k23_forms_of_sixes).prog 57).name = ("law" : PySem.Str) := by kernel_rfl
      rw [← e]
      exact hmg0
    obtain ⟨fd, hb, hF⟩ := TC.facts (P := (PySem.Challenge.rw_turncouple_k23_forms_of_sixes).prog) (w := w) KX G hmg sx
    refine ⟨K, KX, fd, [He.cT K ("law", none)], TC.spLaw K, fun p hp => ?_, fun p hp => ?_, fun p hp => ?_, hb, fun H a ns hl hT hS => ⟨a, ns, rfl, hS, hl, hT _ (List.mem_singleton.mpr rfl), fun _ => rfl⟩, fun base h1 h2 h3 => hF base h1 h2 (h3 _ (List.mem_singleton.mpr rfl))⟩
    · rw [List.mem_singleton.mp hp]
      exact sx.empty _ (List.mem_singleton.mpr rfl)
    · rw [List.mem_singleton.mp hp]
      exact sx.out _ (List.mem_singleton.mpr rfl)
    · rw [List.mem_singleton.mp hp]
      exact PySem.W.codeHd_of_K KX (sx.hd _ (List.mem_singleton.mpr rfl))
