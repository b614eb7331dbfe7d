import PyProof.Rows.All
import Wide.All
import OpenK.AllK
import Wide.FinOn
import KE.KIsAll
import KE.KTryMore
import HandS.ForMost
import HandS.ForExc
import HandS.Defaults
import HandS.ExcIs
import HandS.Lambda
import HandS.Codes
import HandS.Conv
import HandS.More
import HandS.Walk
import HandS.EndTab
import HandS.HeadWalk
import PyProof.ReprRoads
import PyProof.ListRange
import HandS.HeadHook1
import HandS.HeadHook2
import HandS.HeadHook3
import HandS.HeadHook4
import KE.KStateDown
import Lean
import HandS.IsInst
import HandS.Head0
import HandS.Head1
import HandS.Head2
import HandS.HeadEnd
import KE.GoesMore
import KE.GoesEnum
import KE.KFmtOwn
import PyProof.InstEq
import HandS.OwnEq
import HandS.Wide
import HandS.WideMore
import HandS.DictComp
import HandS.TupAny
import HandS.SortInts
import HandS.WideBits
import HandS.RevRange
import PyProof.ReprLen
import PySem.Challenge.RW_turncouple_k06_roots_of_fractions
set_option Elab.async false
set_option linter.all false
set_option maxRecDepth 100000
set_option maxHeartbeats 4000000
/-! Exceptions that are caught, kept in a name and asked of later. -/
namespace TCX
open PySem PySem.Spec PyProof.Rows L2
/-! ### a clause that names five classes -/
section
open PySem.W
variable {M : Model} {K : Frag}
theorem exm_tup5 {c1 c2 c3 c4 c5 cls : Value} {tp e : Addr} {b : Bool} {h : Heap} (X : K.In h) (LT : Looks M h (typeOf (.ref e)) cls) (hp : h.get? tp = some { cls := .type "tuple", data := .seq [c1, c2, c3, c4, c5].toArray }) (hx : exmAny K cls [c1, c2, c3, c4, c5] = some b) :
    Looks M h (excMatches (.ref e) (.ref tp)) b := by
  intro A Q E s k₀ q
  obtain ⟨hh, g, d, tk, os⟩ := s
  have k : ∀ b o, h.get? b = some o → hh.get? b = some o := k₀
  have T0 : Looks M h (isInstance (.ref tp) (.type "tuple")) true := ((Looks.ld hp).andThen .now).andThen (Looks.of_pure isSubtype_tuple_tuple)
  have T1 := T0.keeps k
  have TY := LT.keeps k
  have hp' := k _ _ hp
  obtain ⟨b1, d1, x1, y1, z1⟩ := exmAny_cons hx
  obtain ⟨b2, d2, x2, y2, z2⟩ := exmAny_cons y1
  obtain ⟨b3, d3, x3, y3, z3⟩ := exmAny_cons y2
  obtain ⟨b4, d4, x4, y4, z4⟩ := exmAny_cons y3
  obtain ⟨b5, d5, x5, y5, z5⟩ := exmAny_cons y4
  have u1 := (exm_cls (M := M) X x1).1.keeps k
  have v1 := (exm_cls (M := M) X x1).2.keeps k
  have u2 := (exm_cls (M := M) X x2).1.keeps k
  have v2 := (exm_cls (M := M) X x2).2.keeps k
  have u3 := (exm_cls (M := M) X x3).1.keeps k
  have v3 := (exm_cls (M := M) X x3).2.keeps k
  have u4 := (exm_cls (M := M) X x4).1.keeps k
  have v4 := (exm_cls (M := M) X x4).2.keeps k
  have u5 := (exm_cls (M := M) X x5).1.keeps k
  have v5 := (exm_cls (M := M) X x5).2.keeps k
  have w5 : some false = some d5 := y5
  cases w5
  subst z1 z2 z3 z4 z5
  unfold excMatches
  refine wpAny_bind (T1.at ?_)
  dsimp only
  rw [if_pos rfl]
  first
    | refine wpAny_bind (wpAny_seqItems hp' rfl ?_)
    | refine wpAny_bind (wpAny_bind (wpAny_seqItems hp' rfl (wpAny_pure ?_)))
  dsimp only [Option.getD_some, Option.getD]
  cases b1 <;> cases b2 <;> cases b3 <;> cases b4 <;> cases b5 <;> ((repeat (first | simp only [List.forIn_cons, List.forIn_nil, Bool.not_true, Bool.false_eq_true, if_false, if_true] | lk)); exact q)
end
/-- the test t of a clause, asked while an exception of the class cls is handled: it says b -/
def Tst (X : Cx) (t : Expr) (cls : Value) (b : Bool) : Prop :=
  ∀ (a : Addr) (oe : Obj) (pn : List (Addr × Obj)) (σ : L2.St) (H : Hp) (s : Shared) (Q : Bool → Shared → Prop) (E : Value → Shared → Prop),
    Inv (X.suite a ((a, oe) :: pn)) [] σ H s → oe.cls = cls → (∀ h', (∀ q o, s.heap.get? q = some o → h'.get? q = some o) → Q b { s with heap := h' }) →
    wpAny (model X.prog X.w) (X.A.mark (some (.ref a))) (eval t X.env) (fun c s₁ => wpAny (model X.prog X.w) (X.A.mark (some (.ref a))) (excMatches (.ref a) c) Q E s₁) E s
section
variable {X : Cx}
theorem suite_ty {a : Addr} {oe : Obj} {pn : List (Addr × Obj)} {σ : L2.St} {H : Hp} {s : Shared} (I : Inv (X.suite a ((a, oe) :: pn)) [] σ H s) : PySem.W.Looks (model X.prog X.w) s.heap (typeOf (.ref a)) oe.cls := by
  obtain ⟨hget, _⟩ := I.pin (a, oe) (List.mem_append.mpr (.inl List.mem_cons_self))
  exact fun A Q E s k q => wpAny_typeOf_ref (k _ _ hget) q
theorem ld_names {a : Addr} {oe : Obj} {pn : List (Addr × Obj)} {σ : L2.St} {H : Hp} {s : Shared} {x : Str} {c : Value} {np : Pos} {Q : Value → Shared → Prop} {E : Value → Shared → Prop} (hc : Names X x c) (I : Inv (X.suite a ((a, oe) :: pn)) [] σ H s) (q : Q c s) :
    wpAny (model X.prog X.w) (X.A.mark (some (.ref a))) (eval (.Name x np) X.env) Q E s := by
  obtain ⟨hg, hdbg, hm | ⟨hm, hv, hnn⟩⟩ := hc
  · exact ld_glob (X := X.suite a ((a, oe) :: pn)) I hg hm q hdbg
  · exact ld_blt (X := X.suite a ((a, oe) :: pn)) I hg hm hv q hnn hdbg
theorem tst_name {x : Str} {c cls : Value} {np : Pos} {b : Bool} (hc : Names X x c) (he : PySem.W.exmOne X.K cls c = some b) : Tst X (.Name x np) cls b := by
  intro a oe pn σ H s Q E I e q
  subst e
  exact ld_names hc I ((PySem.W.exm_one I.kIn (suite_ty I) he).here (q s.heap fun _ _ z => z))
theorem tst_tup4 {x1 x2 x3 x4 : Str} {c1 c2 c3 c4 cls : Value} {p1 p2 p3 p4 tpos : Pos} {kk : Nat} {b : Bool} (n1 : Names X x1 c1) (n2 : Names X x2 c2) (n3 : Names X x3 c3) (n4 : Names X x4 c4) (he : PySem.W.exmAny X.K cls [c1, c2, c3, c4] = some b) :
    Tst X (.Tuple [.Name x1 p1, .Name x2 p2, .Name x3 p3, .Name x4 p4] kk tpos) cls b := by
  intro a oe pn σ H s Q E I e q
  subst e
  refine wpAny_Tuple ?_
  refine wpAny_items_cons (ld_names n1 I ?_)
  refine wpAny_items_cons (ld_names n2 I ?_)
  refine wpAny_items_cons (ld_names n3 I ?_)
  refine wpAny_items_cons (ld_names n4 I ?_)
  refine wpAny_items_nil ⟨by size_fits, ?_⟩
  have kp : ∀ q o, s.heap.get? q = some o → (s.heap.push { cls := .type "tuple", data := .seq [c1, c2, c3, c4].toArray }).get? q = some o := fun _ _ z => Heap.get?_push_of_some _ z
  exact (PySem.W.exm_tup4 (I.kIn.keeps kp) ((suite_ty I).keeps kp) (Heap.get?_push_size s.heap rfl) he).here (q _ kp)
theorem tst_tup5 {x1 x2 x3 x4 x5 : Str} {c1 c2 c3 c4 c5 cls : Value} {p1 p2 p3 p4 p5 tpos : Pos} {kk : Nat} {b : Bool} (n1 : Names X x1 c1) (n2 : Names X x2 c2) (n3 : Names X x3 c3) (n4 : Names X x4 c4) (n5 : Names X x5 c5) (he : PySem.W.exmAny X.K cls [c1, c2, c3, c4, c5] = some b) :
    Tst X (.Tuple [.Name x1 p1, .Name x2 p2, .Name x3 p3, .Name x4 p4, .Name x5 p5] kk tpos) cls b := by
  intro a oe pn σ H s Q E I e q
  subst e
  refine wpAny_Tuple ?_
  refine wpAny_items_cons (ld_names n1 I ?_)
  refine wpAny_items_cons (ld_names n2 I ?_)
  refine wpAny_items_cons (ld_names n3 I ?_)
  refine wpAny_items_cons (ld_names n4 I ?_)
  refine wpAny_items_cons (ld_names n5 I ?_)
  refine wpAny_items_nil ⟨by size_fits, ?_⟩
  have kp : ∀ q o, s.heap.get? q = some o → (s.heap.push { cls := .type "tuple", data := .seq [c1, c2, c3, c4, c5].toArray }).get? q = some o := fun _ _ z => Heap.get?_push_of_some _ z
  exact (exm_tup5 (I.kIn.keeps kp) ((suite_ty I).keeps kp) (Heap.get?_push_size s.heap rfl) he).here (q _ kp)
end
/-! ### a caught exception that is tracked from now on -/
/-- at a stands an exception of the class cls, its own dict d -/
def ExV (cls : Value) (d : Option Addr) (a : Addr) : HO := .ext fun h => ∃ (oe : Obj) (vs : Array Value), h.get? a = some oe ∧ Zc cls d oe ∧ oe.data = .fields vs
theorem exV_ok {P : Program} {w : World} {H : Hp} {h : Heap} {a : Addr} {cls : Value} {d : Option Addr} {oe : Obj} {vs : Array Value} (e : h.get? a = some oe) (z : Zc cls d oe) (hd : oe.data = .fields vs) : ObjOk P w H h a (ExV cls d a) :=
  ⟨⟨oe, vs, e, z, hd⟩, ⟨oe, e⟩, fun _ _ ⟨o, v, q, r⟩ k => ⟨o, v, k o q, r⟩⟩
theorem flyZ_keeps {B h h' : Heap} {l : List Env} {e : Addr} {Z : Obj → Prop} (R : HandSPX.FlyingZ B l e Z h) (k : ∀ b o, h.get? b = some o → h'.get? b = some o) : HandSPX.FlyingZ B l e Z h' := by
  obtain ⟨f1, f2, f3, oe, ws, T, oT, ts, he, hz, hd, h1, hn, hne, hT, hdT, h3⟩ := R
  exact ⟨fun b o q => k b o (f1 b o q), f2, f3.of_keeps fun b o q _ => ⟨o, k b o q, rfl⟩, oe, ws, T, oT, ts, k _ _ he, hz, hd, h1, hn, hne, k _ _ hT, hdT, h3⟩
section
variable {X : Cx} {pins : List (Addr × Obj)} {σ : L2.St} {H : Hp} {s : Shared}
theorem Inv_track {a : Addr} {cls : Value} {d : Option Addr} {oe : Obj} {vs : Array Value} (I : Inv X pins σ H s) (h0 : X.s_0.heap.get? a = none) (na : H a = none) (he : s.heap.get? a = some oe) (hz : Zc cls d oe) (hd : oe.data = .fields vs) (nL : a ≠ X.env.locals) (nP : ∀ p ∈ X.pn ++ pins, p.1 ≠ a) :
    Inv X pins σ (upd H a (ExV cls d a)) s := by
  have nS : ∀ b u, H b = some u → b ≠ a := fun b u e => ne_of_none e na
  refine ⟨I.ok, I.os, I.bare, ⟨I.base.keep, I.base.slot, fun b o e n hx => ?_, I.base.there, fun b xs e => ?_, fun b o u e => ?_, fun b ps e => ?_⟩, I.loc, I.cell, ?_, fun x c e => ?_, fun p hp => ?_, fun b u e => ?_, I.len⟩
  · rw [upd_ne (fun z => by rw [z, h0] at e; cases e)]
    exact I.base.free b o e n hx
  · have q := I.base.tups b xs e
    rw [upd_ne (nS _ _ q)]
    exact q
  · have q := I.base.frzs b o u e
    rw [upd_ne (nS _ _ q)]
    exact q
  · obtain ⟨m, q⟩ := I.base.tbls b ps e
    exact ⟨m, by rw [upd_ne (nS _ _ q)]; exact q⟩
  · rw [upd_ne (Ne.symm nL)]
    exact I.free
  · obtain ⟨v, o, ho, hdc⟩ := I.cell x c e
    rw [upd_ne (fun z => by
      rw [z, he] at ho
      cases ho
      rw [hd] at hdc
      cases hdc)]
    exact I.freeC x c e
  · obtain ⟨e, n, ne, nf, dd⟩ := I.pin p hp
    exact ⟨e, by rw [upd_ne (nP p hp)]; exact n, ne, nf, dd⟩
  · by_cases hb : b = a
    · subst hb
      rw [upd_same] at e
      cases e
      exact exV_ok he hz hd
    · rw [upd_ne hb] at e
      exact (I.hok b u e).stay (fun c v _ q => q) (fun c q => by rw [upd_ne (nS _ _ q)]; exact q) fun c xs q => by rw [upd_ne (nS _ _ q)]; exact q
theorem Inv_suite0 {a : Addr} (I : Inv X pins σ H s) : Inv (X.suite a (X.pn ++ pins)) [] σ H s :=
  ⟨I.ok.suite _ _, I.os, I.bare, I.base, I.loc, I.cell, I.free, I.freeC, fun p hp => I.pin p (by rw [List.append_nil] at hp; exact hp), I.hok, I.len⟩
theorem Inv_unsuite0 {a : Addr} {pn' : List (Addr × Obj)} (I : Inv (X.suite a (X.pn ++ pins)) pn' σ H s) (ok : X.Ok) : Inv X pins σ H s :=
  ⟨ok, I.os, I.bare, I.base, I.loc, I.cell, I.free, I.freeC, fun p hp => I.pin p (List.mem_append_left _ hp), I.hok, I.len⟩
end
/-- the ends of a suite whose name's slot i is emptied behind it -/
def endsAs (i : Nat) (D : Ends) : Ends := { nx := fun σ' H' => D.nx (σ'.set i none) H', rt := D.rt, bk := fun σ' H' => D.bk (σ'.set i none) H', ct := fun σ' H' => D.ct (σ'.set i none) H' }
/-- what the clauses wish: each has its classes, its name's slot, its suite -/
def wKeep (K : PySem.W.Frag) (D : Ends) : List (List Value × Nat × (Addr → Value → Option Addr → TS)) → WX
  | [] => fun _ _ _ _ => False
  | (cs, i, ts) :: r => fun cls d σ H => ∃ b, PySem.W.exmAny K cls cs = some b ∧ (b = true → ∀ a, H a = none → ts a cls d (endsAs i D) (σ.set i (some (.ref a))) (upd H a (ExV cls d a))) ∧ (b = false → wKeep K D r cls d σ H)
inductive HdK (X : Cx) : List ExceptHandler → List (List Value × Nat × (Addr → Value → Option Addr → TS)) → Prop
  | nil : HdK X [] []
  | cons {t : Expr} {n : Str} {i : Nat} {cs : List Value} {ts : Addr → Value → Option Addr → TS} {b₀ : Stmt} {suite : List Stmt} {pos' : Pos} {hds : List ExceptHandler} {l : List (List Value × Nat × (Addr → Value → Option Addr → TS))}
      (ht : ∀ cls b, PySem.W.exmAny X.K cls cs = some b → Tst X t cls b) (hi : X.N[i]? = some n) (hln : X.env.kindOf n = some .local)
      (hsu : ∀ (a : Addr) (cls : Value) (d : Option Addr) (pn : List (Addr × Obj)), PSs (X.suite a pn) (b₀ :: suite) (ts a cls d)) (r : HdK X hds l) :
      HdK X (.ExceptHandler (some t) (some n) (b₀ :: suite) pos' :: hds) ((cs, i, ts) :: l)
section
variable {X : Cx} {body : List Stmt} {h₀ : ExceptHandler} {hds : List ExceptHandler} {l : List (List Value × Nat × (Addr → Value → Option Addr → TS))} {pos : Pos} {tb : WX → TS}
theorem ps_try_keep (hs : X.stack = X.env :: X.outer) (hf : X.env.frame = some X.env.locals) (hex : X.ex = []) (hN : X.N.Nodup)
    (hb : ∀ (W : WX) (pn : List (Addr × Obj)) (xe : Value → Shared → Prop), Takes (X.tr pn xe) W → PassesOwn (model X.prog X.w) X.A X.env xe → PSs (X.tr pn xe) body (tb W))
    (hh : HdK X (h₀ :: hds) l) : PS X (.Try body (h₀ :: hds) [] [] pos) (fun D σ H => tb (fun cls d σ' H' => σ'.length = X.N.length → wKeep X.K D l cls d σ' H') D σ H) := by
  refine ⟨fun pins s σ H D I h => ?_⟩
  have ok := I.ok
  have hfr : X.A.frames = some (X.env :: X.outer) := by rw [ok.frames, hs]
  refine wpAny_Try_except ?_
  refine wpAny_mono ((hb (fun cls d σ' H' => σ'.length = X.N.length → wKeep X.K D l cls d σ' H') (X.pn ++ pins) (fun e s₁ => wpAny (model X.prog X.w) X.A (noteFrame e X.env) (fun _ s₂ => wpAny (model X.prog X.w) X.A (setFlight e none) (fun _ s₃ =>
    wpAny (model X.prog X.w) X.A (handleBy e X.env (h₀ :: hds)) (SP X pins D) X.xe s₃) X.xe s₂) X.xe s₁) (fun u s' xx => ?_) PassesOwn.looking).run [] s σ H D (I.toTry _) h) (fun f s1 hsp => ?_) (fun e s1 he => he)
  · obtain ⟨a, B, sI, pins', σ', H', cls, d, rfl, J', nb, up, sky, na, os, ag, w⟩ := xx
    have J : Inv X pins σ' H' sI := J'.ofTry ok
    have sky' : Sky B (X.env :: X.outer) a (Zc cls d) X.env.locals s'.heap := by rw [← hs]; exact sky
    show wpAny (model X.prog X.w) X.A (noteFrame (.ref a) X.env) _ _ _
    refine Sky.land Zc.steady hfr hf sky' fun h3 fl3 up3 => ?_
    have notFr : ∀ {h : Heap} {o : Obj} {vs : Array Value}, h.FunFrames B (X.env :: X.outer) → h.get? a = some o → o.data = .fields vs → a ∉ frs (X.env :: X.outer) := fun {h o vs} ff e dd hm => by
      obtain ⟨_, o', e', hnf⟩ := ff.mem hm
      rw [e] at e'; cases e'
      exact hnf _ dd
    have nfr : a ∉ frs (X.env :: X.outer) := by
      obtain ⟨oe3, vs3, he3, hz3, hd3⟩ := fl3.there
      exact notFr fl3.2.2.1 he3 hd3
    have nL : a ≠ X.env.locals := fun z => nfr (List.mem_filterMap.mpr ⟨X.env, List.mem_cons_self, by rw [hf, z]⟩)
    have nF : a ∉ X.fs := fun hm => by
      obtain ⟨e, he, q⟩ := List.mem_filterMap.mp hm
      exact nfr (List.mem_filterMap.mpr ⟨e, List.mem_cons_of_mem _ he, q⟩)
    have nI : sI.heap.get? a = none := by
      cases e : sI.heap.get? a with
      | none => rfl
      | some o =>
        have z := nb a o e (by rw [hs]; exact nfr)
        rw [fl3.2.1] at z
        cases z
    have n0 : X.s_0.heap.get? a = none := by
      cases e : X.s_0.heap.get? a with
      | none => rfl
      | some o =>
        obtain ⟨o', z⟩ := J.base.there a o e (by rw [hex]; exact fun z => nomatch z)
        rw [nI] at z
        cases z
    have nP : ∀ p ∈ X.pn ++ pins, p.1 ≠ a := fun p hp z => by
      obtain ⟨e, _⟩ := J.pin p hp
      rw [z, nI] at e
      cases e
    have go : ∀ {hds' : List ExceptHandler} {l' : List (List Value × Nat × (Addr → Value → Option Addr → TS))}, HdK X hds' l' → wKeep X.K D l' cls d σ' H' → ∀ h3 : Heap, HandSPX.FlyingZ B (X.env :: X.outer) a (Zc cls d) h3 → sI.heap.UpToSlots h3 →
        wpAny (model X.prog X.w) X.A (handleBy (.ref a) X.env hds') (SP X pins D) X.xe { s' with heap := h3 } := by
      intro hds' l' hk
      induction hk with
      | nil =>
        intro w
        exact w.elim
      | @cons t n i cs ts b₀ suite pos' hds2 l2 ht hi hln hsu r ih =>
        intro w h3 fl3 up3
        obtain ⟨b, hb1, hyes, hno⟩ := w
        have J3 : Inv X pins σ' H' { s' with heap := h3 } := J.landed nb fl3.1 up3 os ag
        obtain ⟨oe3, vs3, he3, hz3, hd3⟩ := fl3.there
        have S3 := J3.suite he3 hd3 na nL nF
        refine wpAny_handleBy_cons (codeAny_handlers_test (ht cls b hb1 a oe3 _ _ _ _ _ _ S3 hz3.1 fun h4 kp => ?_)) (by intro q; cases q)
        have fl4 := flyZ_keeps fl3 kp
        have up4 : sI.heap.UpToSlots h4 := up3.trans (Heap.UpToSlots.of_keeps kp)
        cases b with
        | true =>
          refine codeAny_handlers_suite_as ?_
          refine HandSPX.lands_againZ (s := { s' with heap := h4 }) fl4 fun h5 fl5 up5 => ?_
          have J5 : Inv X pins σ' H' { s' with heap := h5 } := J.landed nb fl5.1 (up4.trans up5) os ag
          obtain ⟨oe5, vs5, he5, hz5, hd5⟩ := fl5.there
          have K5 : Inv X pins σ' (upd H' a (ExV cls d a)) { s' with heap := h5 } := Inv_track J5 n0 na he5 hz5 hd5 nL nP
          have S5 : Inv (X.suite a (X.pn ++ pins)) [] σ' (upd H' a (ExV cls d a)) { s' with heap := h5 } := Inv_suite0 K5
          refine store_ok (X := X.suite a (X.pn ++ pins)) (v := .ref a) S5 hN hi (.inl hln) rfl (fun s6 S6 => ?_) (.inr hln)
          refine wpAny_mono ((hsu a cls d (X.pn ++ pins)).run [] s6 _ _ _ S6 (hyes rfl a na)) (fun f s7 hsp => ?_) (fun _ _ z => False.elim z)
          have end_ : ∀ {σ6 : L2.St} {H6 : Hp} {Q : Shared → Prop}, Inv (X.suite a (X.pn ++ pins)) [] σ6 H6 s7 → (∀ s8, Inv X pins (σ6.set i none) H6 s8 → Q s8) →
              wpAny (model X.prog X.w) X.A (do bindName X.env n .none; unbindBehindTheSuite X.env n pos') (fun _ s8 => Q s8) X.xe s7 := fun {σ6 H6 Q} S6 hq => gone_ok (Inv_unsuite0 S6 ok) hN hi hln hq
          cases f with
          | next =>
            obtain ⟨σ6, H6, S6, q6⟩ := hsp
            exact end_ S6 fun s7 J7 => ⟨_, _, J7, q6⟩
          | brk =>
            obtain ⟨σ6, H6, S6, q6⟩ := hsp
            exact end_ S6 fun s7 J7 => ⟨_, _, J7, q6⟩
          | cont =>
            obtain ⟨σ6, H6, S6, q6⟩ := hsp
            exact end_ S6 fun s7 J7 => ⟨_, _, J7, q6⟩
          | ret u =>
            obtain ⟨v6, σ6, H6, S6, r6, q6⟩ := hsp
            exact end_ S6 fun s7 J7 => ⟨_, _, _, J7, r6, q6⟩
        | false =>
          show wpAny _ X.A (handleBy (.ref a) X.env hds2) _ _ _
          exact ih (hno rfl) h4 fl4 up4
    exact go hh (w J.len) h3 fl3 (up.trans up3)
  · cases f with
    | next =>
      obtain ⟨σ', H', J', q⟩ := hsp
      exact wpAny_execs_nil ⟨σ', H', J'.ofTry ok, q⟩
    | brk =>
      obtain ⟨σ', H', J', q⟩ := hsp
      exact ⟨σ', H', J'.ofTry ok, q⟩
    | cont =>
      obtain ⟨σ', H', J', q⟩ := hsp
      exact ⟨σ', H', J'.ofTry ok, q⟩
    | ret u =>
      obtain ⟨v, σ', H', J', r, q⟩ := hsp
      exact ⟨v, σ', H', J'.ofTry ok, r, q⟩
end
/-! ### isinstance of it -/
section
variable {X : Cx}
/-- isinstance(e, c), e a kept exception of an own class without fields -/
def rIsV (K : PySem.W.Frag) : List V → Hp → VK → Prop := fun xs H Q => ∃ (a D : Addr) (c : V) (cv : Value) (b : Bool), xs = [.ref a, c] ∧ H a = some (ExV (.ref D) none a) ∧ ExcC K D ∧ (∀ u, RelV c u → u = cv) ∧ PySem.W.kitOne K (.ref D) cv = some b ∧ Q (.bl b) H
theorem inst_of {pins : List (Addr × Obj)} {σ : L2.St} {H : Hp} {s : Shared} {a D : Addr} (I : Inv X pins σ H s) (h : H a = some (ExV (.ref D) none a)) : ∃ oe, PySem.W.InstAt s.heap a oe D none := by
  obtain ⟨⟨oe, vs, hget, hz, hv⟩, _, _⟩ := I.hok a _ h
  refine ⟨oe, ?_⟩
  obtain ⟨oc, od, oda, osl⟩ := oe
  obtain ⟨h1, h2⟩ := hz
  dsimp only at h1 h2 hv
  subst h1 h2 hv
  exact ⟨hget, rfl, rfl, trivial⟩
theorem call_isV : CallR X (.builtin "isinstance") (rIsV X.K) := by
  intro pins s σ H xs us Q I r h
  obtain ⟨a, D, c, cv, b, rfl, hH, C, hcv, e, q⟩ := h
  cases r with
  | cons rx rr =>
    cases rr with
    | cons rt rr =>
      cases rr
      cases rx
      have ec := hcv _ rt
      subst ec
      obtain ⟨oe, J⟩ := inst_of I hH
      exact PySem.W.kia_one (PySem.W.handS_kitx_exc C.hg C.hk C.hs C.hd C.ha C.hn C.ht C.hm) I.kIn J e (fun z => nomatch z) fun tk => ⟨.bl b, H, I.kept (t' := tk) fun _ _ z => z, rfl, q⟩
/-- xs.count(y), flat items -/
def rCount (K : PySem.W.Frag) : V → List V → Hp → VK → Prop := fun x xs H Q => ∃ (a : Addr) (ys : List V) (y : V), x = V.ref a ∧ xs = [y] ∧ SqL K H a ys ∧ flatV y = true ∧ ys.all flatV = true ∧ Q (.int ((ys.countP fun z => eqV z y : Nat) : Int)) H
theorem count_eqU {y : V} : ∀ {xs : List V} {us : List Value}, Vals xs us → xs.all flatV = true → us.countP (eqU y) = xs.countP fun z => eqV z y
  | _, _, .nil, _ => rfl
  | x :: xs, u :: us, .cons r t, f => by
    rw [List.all_cons, Bool.and_eq_true] at f
    rw [List.countP_cons, List.countP_cons, eqU_of r f.1, count_eqU t f.2]
theorem mt_count : MtR X "list.count" (rCount X.K) := by
  intro pins s σ H x xs v us Q I rx rxs h
  obtain ⟨a, ys, y, rfl, rfl, hs, fy, fys, q⟩ := h
  cases rx
  cases rxs with
  | cons ry rt =>
    rename_i uy ut
    cases rt
    obtain ⟨its, rv, ⟨⟨cls, dd, data, sl⟩, n, ho, hc, hdn, hd⟩, hlen⟩ := I.list hs
    simp only at hc hd
    subst hc hd
    refine call_meets PySem.F.slot_list_count ⟨_, ho, rfl⟩ PySem.F.entry_list_count (PySem.F.args_list_count_2 _ _)
      (SeqAt.list_countAt a its.toArray n dd sl uy (eqU y)) ⟨ho, fun u' hu' => mem_eqAt ry fy rv fys u' (by simpa using hu'), ?_⟩
    have ec : its.toArray.toList.countP (eqU y) = ys.countP fun z => eqV z y := count_eqU rv fys
    refine ⟨.int ((ys.countP fun z => eqV z y : Nat) : Int), H, I.tok _, ⟨s.toks, ?_⟩, q⟩
    rw [ec]
end
end TCX
/-! Defs that ask repr of lists and tuples: the guards of the calls around are told. -/
namespace TCX
open PySem PySem.Spec PyProof.Rows L2
/-- FnOk where no repr is under way -/
structure FnG (P : Program) (w : World) (K : PySem.W.Frag) (mg : Str → Option Value) (base : Heap) (CX : CXT) (k : Nat) (f : Addr) (fd : FuncData) (ps : List Str) (sp : Sp) : Prop where
  glen : ∀ vs H Q E, sp vs H Q E → vs.length = ps.length
  grun : ∀ (A : Around) (outer : List Env) (s : Shared) (H : Hp) (args : Args) (us : List Value) (vs : List V) (Q : VK) (E : XK), A.guards = some [] → Room k A → Env0 P w K mg base A outer s H → BindsTo s fd args (ps.zip us) → Vals vs us → sp vs H Q E →
    codeAny (model P w) A (.call (.ref f) args) (CR CX outer P w H s Q E) s
section
variable {P : Program} {w : World} {K : PySem.W.Frag} {mg : Str → Option Value} {base : Heap} {x qual : Str} {params : Arguments} {body : List Stmt} {scope : Scope} {dvs : List V} {kws : List (Str × V)} {f : Addr} {fd : FuncData} {CX : CXT} {N ps : List Str} {k : Nat} {sp : Sp}
theorem okG (F : FunD K x qual params body scope dvs kws f fd) (S : FnScope N ps scope) (len : ∀ vs H Q E, sp vs H Q E → vs.length = ps.length)
    (hbody : ∀ (cdv : Value) (A : Around) (outer : List Env) (s : Shared) (H : Hp) (vs : List V) (Q : VK) (E : XK), A.guards = some [] → Room k (A.deeper (envOfC qual scope s.heap.objs.size f cdv)) → sp vs H Q E →
      ∃ t, PSs (cxOf CX P w K mg base N qual scope f cdv A outer s H E) body t ∧ t { nx := fun _ H' => Q .non H', rt := Q } (L2.start N vs) H) : FnG P w K mg base CX (k + 1) f fd ps sp := by
  obtain ⟨oc, od, dV, kV, doc, pm, an, cdv, ct, osl, rfl, lk, hcd, _, _⟩ := F.ex
  exact ⟨len, fun A outer s H args us vs Q E hg hr e0 hb r hsp => LamX.run_ofS lk hcd S hr e0 hb r (len _ _ _ _ hsp) fun hr' => hbody cdv A outer s H vs Q E hg hr' hsp⟩
end
section
variable {X : Cx} {CX : CXT} {k : Nat} {f : Addr} {fd : FuncData} {ps : List Str} {sp : Sp} {E : XK} {x : Str} {p pos : Pos} {e : Expr} {es : List Expr} {t : TA} {dvs : List V} {ds : List Value}
/-- f(e, ..) of such a def -/
theorem pe_callG (F : FnG X.prog X.w X.K X.mg X.base CX k f fd ps sp) (hG : X.A.guards = some []) (hr : Room k X.A) (hg : Gl X x) (hm : X.mg x = some (.ref f)) (hk : PySem.W.keepIn X.K (.ref f) = true) (hb : L2.Binds X.K fd ps ds) (hd : Vals dvs ds) (hx : Passes CX X E)
    (ha : PA X (e :: es) t) (hdb : (x == ("__debug__" : Str)) = false := by decide) (he : starEach (e :: es) X.env = (false, eval e X.env) :: starEach es X.env := by rfl) (hpl : (backTo pos (starEach es X.env)).any (·.1) = false := by rfl) :
    PE X (.Call (.Name x p) (e :: es) [] pos) (tCall sp dvs E t) := by
  refine ⟨fun pins s σ H Q I h => wpAny_Call_Name_kw (ld_glob I hg hm ?_ hdb)⟩
  refine PySem.W.callWith_K (h₀ := X.base) I.ok.mod.kin hk (thn (ha.run pos pins s σ H _ I h) fun us s1 z => ?_) he hpl
  obtain ⟨vs, H1, I1, r, q⟩ := z
  refine ⟨I1.kIn, wpAny_call (codeAny_mono (F.grun X.A X.stack s1 H1 ⟨us, []⟩ (us ++ ds) (vs ++ dvs) Q E hG hr I1.env0 (hb s1 us I1.kIn ?_) (r.append hd) q) fun y s' hq => ?_)⟩
  · rw [← (r.append hd).length]
    exact F.glen _ _ _ _ q
  · match y, hq with
    | .error u, hq => exact hx pins σ H1 s1 u s' I1 hq
    | .ok (.ret u), hq => exact I1.after hq
    | .ok .next, hq => exact False.elim hq
    | .ok .brk, hq => exact False.elim hq
    | .ok .cont, hq => exact False.elim hq
/-- repr(x) of lists and tuples of data -/
theorem call_reprD (hG : X.A.guards = some []) (hu : X.A.units + 64 < cLine) : CallR X (.builtin "repr") (fun xs H Q => ∃ (a : Addr) (d : PyData), xs = [.ref a] ∧ Dp X.K H (.ref a) d ∧ d.showable = true ∧ d.hasDict = false ∧ d.depth ≤ 60 ∧ d.shown.length ≤ sizeLine ∧ Q (.str d.shown) H) := by
  intro pins s σ H xs us Q I r h
  obtain ⟨a, d, rfl, hd, hs, hn, hdp, hz, q⟩ := h
  rw [Vals.ref1 r]
  obtain ⟨as, hr⟩ := Dp.reads I d (.ref a) (.ref a) hd rfl
  exact repr_of_reads' hr hs (fun z => by rw [hn] at z; cases z) hG (by omega) (fun _ _ z => z) (fun h' u tk hk => ⟨.str d.shown, H, I.kept (t' := tk) hk, ⟨u, rfl⟩, q⟩) hz
theorem call_reprB : CallR X (.builtin "repr") (fun xs H Q => ∃ b : Bool, xs = [.bl b] ∧ Q (.str (if b then "True" else "False")) H) := by
  intro pins s σ H xs us Q I r h
  obtain ⟨b, rfl, q⟩ := h
  obtain ⟨u, rfl, rfl⟩ := vals1 r
  exact P.repr_of_bool ⟨.str (if b then "True" else "False"), H, I.tok _, ⟨_, rfl⟩, q⟩
end
/-! ### list(range(a, b, 2)) -/
theorem size2 {a b : Int} {n : Nat} (h : a < b) (hn : (b - a - 1) / 2 + 1 = n) : Builtin.Range.rangeSize a b 2 = n := by
  unfold Builtin.Range.rangeSize
  rw [if_pos (by decide), if_pos h, hn]
theorem size2_0 {a b : Int} (h : ¬ a < b) : Builtin.Range.rangeSize a b 2 = (0 : Nat) := by
  unfold Builtin.Range.rangeSize
  rw [if_pos (by decide), if_neg h]
  rfl
theorem small2 {a b : Int} (ha : -100000 ≤ a) (ha' : a < 100000) (hb : -100000 ≤ b) (hb' : b < 100000) : Builtin.Range.small a b 2 = true := by
  unfold Builtin.Range.small
  by_cases h : a < b
  · rw [size2 (n := ((b - a - 1) / 2 + 1).toNat) h (by omega)]
    simp only [Builtin.Range.rangeFitsLong, Bool.and_eq_true, Bool.or_eq_true, decide_eq_true_eq, beq_iff_eq, show (2 : Int) > 0 by decide, if_true]
    omega
  · rw [size2_0 h]
    simp only [Builtin.Range.rangeFitsLong, Bool.and_eq_true, Bool.or_eq_true, decide_eq_true_eq, beq_iff_eq, show (2 : Int) > 0 by decide, if_true]
    omega
/-- a, a + 2, .. : n of them -/
def upV (a : Int) (n : Nat) : List V := (List.range n).map fun i => V.int (a + (i : Nat) * 2)
theorem upV_length (a : Int) (n : Nat) : (upV a n).length = n := by rw [upV, List.length_map, List.length_range]
section
variable {X : Cx} {a b : Expr} {ta : TA}
def tLst2 (ta : TA) : TE := fun σ H Q => ta σ H fun vs H1 => ∃ (i j : Int) (n : Nat), vs = [.int i, .int j, .int 2] ∧ -100000 ≤ i ∧ i < 100000 ∧ -100000 ≤ j ∧ j < 100000 ∧ Builtin.Range.rangeSize i j 2 = n ∧ ∀ q, H1 q = none → Q (.ref q) (upd H1 q (.lst (upV i n)))
theorem pe_list2 {c : Expr} {p pos p2 pos2 : Pos} (hc : X.calm = true) (hgl : Gl X "list") (hml : X.mg "list" = none) (hgr : Gl X "range") (hmr : X.mg "range" = none) (ha : PA X [a, b, c] ta)
    (hs : starEach [a, b, c] X.env = (false, eval a X.env) :: starEach [b, c] X.env := by rfl) (hpl : (backTo pos2 (starEach [b, c] X.env)).any (·.1) = false := by rfl)
    (hs2 : starEach [Expr.Call (.Name "range" p2) [a, b, c] [] pos2] X.env = (false, eval (.Call (.Name "range" p2) [a, b, c] [] pos2) X.env) :: starEach [] X.env := by rfl) :
    PE X (.Call (.Name "list" p) [.Call (.Name "range" p2) [a, b, c] [] pos2] [] pos) (tLst2 ta) := by
  refine ⟨fun pins s σ H Q I h => ?_⟩
  refine Call_ (ld_blt I hgl hml boot_list (PyProof.Rows.callWith_type1 (args_cons ?_ hs2) hs2))
  refine Call_ (ld_blt I hgr hmr boot_range (PyProof.Rows.callWith_type1 (thn (ha.run pos2 pins s σ H _ I h) fun us s1 z => ?_) hs hpl))
  obtain ⟨vs, H1, I1, r1, i, j, n, rfl, i1, i2, j1, j2, hn, q⟩ := z
  match us, r1 with
  | [_, _, _], .cons ⟨t, rfl⟩ (.cons ⟨t', rfl⟩ (.cons ⟨t'', rfl⟩ .nil)) =>
    refine call_range_3 (by decide) (args_nil ?_) (Or.inl (PyProof.noPylong_of_log2 (by decide +kernel)))
    have I2 : Inv X pins σ H1 { s1 with heap := s1.heap.push { cls := .type "range", data := .fields #[.int i t, .int j t', .int 2 t''] } } := I1.kept (t' := s1.toks) fun b u e => Heap.get?_push_of_some _ e
    have nle : n ≤ 2 ^ 24 := by
      unfold Builtin.Range.rangeSize at hn
      rw [if_pos (by decide)] at hn
      by_cases z : i < j
      · rw [if_pos z] at hn
        omega
      · rw [if_neg z] at hn
        omega
    refine call_list_range (n := n) (I2.ok.hd hc) (IsRange.new _ _ _ _ _ _ _) (small2 i1 i2 j1 j2) hn nle fun h' tk acc c' hk e' hi => ?_
    have hv : Vals (upV i n) acc.toList := by
      have e : acc.toList.length = n := by rw [Array.length_toList]; exact hi.1
      rw [upV, ← e]
      refine vals_of_get acc.toList _ fun k u hj => ?_
      obtain ⟨y, rfl⟩ := hi.2 k u (by rw [← hj, Array.getElem?_toList])
      exact ⟨y, rfl⟩
    refine ⟨.ref _, upd H1 _ (.lst (upV i n)), I2.laid hk (Nat.le_refl _) (show ObjOk X.prog X.w _ _ _ (.lst (upV i n)) from ⟨?_, acc.toList, c', hv, ?_⟩), rfl, q _ (I2.hok.fresh (Nat.le_refl _))⟩
    · rw [upV_length, sizeLine_eq]
      omega
    · rw [Array.toArray_toList]
      exact e'
end
end TCX
/-! What the head tells of the program's exception classes. -/
namespace TCX
open PySem PySem.Spec PyProof.Rows L2
/-- what isinstance asks of the class at D -/
def excB (K : PySem.W.Frag) (D : Addr) : Bool :=
  He.eqO (PySem.W.findIn K (.ref D) "__getattribute__") (some (some (.builtin "BaseException.__getattribute__"))) && (He.eqO (PySem.W.findIn K (.ref D) "__getattr__") (some none) && (decide (PySem.W.subIn K (.ref D) (.type "BaseException") = some true) &&
    (PySem.W.hasDictIn K D && (He.eqO (PySem.W.findIn K (.ref D) "__class__") (some (some (.builtin "object.__class__"))) && (He.eqO (PySem.W.specialIn K (.builtin "object.__class__") "__get__") (some (some (.builtin "getset_descriptor.__get__"))) &&
      (decide (PySem.W.takesIn K (.builtin "object.__class__") = some true) && decide (PySem.W.mroIn K D (.type "object") = some true)))))))
theorem excB_ok {K : PySem.W.Frag} {D : Addr} (h : excB K D = true) : ExcC K D := by
  obtain ⟨h1, h⟩ := He.ba h
  obtain ⟨h2, h⟩ := He.ba h
  obtain ⟨h3, h⟩ := He.ba h
  obtain ⟨h4, h⟩ := He.ba h
  obtain ⟨h5, h⟩ := He.ba h
  obtain ⟨h6, h⟩ := He.ba h
  obtain ⟨h7, h8⟩ := He.ba h
  exact ⟨He.eqO_ok h1, He.eqO_ok h2, of_decide_eq_true h3, h4, He.eqO_ok h5, He.eqO_ok h6, of_decide_eq_true h7, of_decide_eq_true h8⟩
/-- the classes in the order in which _law_word asks for them -/
def clsN : List Str := (["Empty", "NoDeed", "NoHalf", "NoLinking", "NoNet", "NoNumber", "NoOffset", "NoQuestion", "NoRow", "NoSize", "NoStanding"] : List Str) ++ (["NoTable", "NoText", "NotParted", "NoTree", "NoTriple", "NoWay", "TooWide", "ByNought", "NoName", "NoPlace", "NothingDone"] : List Str)
def words : List Str := (["empty", "deed", "half", "linking", "net", "number", "offset", "question", "row", "size", "standing"] : List Str) ++ (["table", "text", "parted", "tree", "triple", "way", "wide", "nought", "name", "place", "done"] : List Str)
/-- of the 22 classes the at-th one alone is D's -/
def Kits (K : PySem.W.Frag) (D : Addr) (at_ : Nat) : Prop := clsN.map (fun x => PySem.W.kitOne K (.ref D) (.ref (He.ga K x))) = (List.range 22).map fun i => some (i == at_)
instance {K : PySem.W.Frag} {D : Addr} {n : Nat} : Decidable (Kits K D n) := inferInstanceAs (Decidable (_ = _))
theorem Kits.at {K : PySem.W.Frag} {D : Addr} {n : Nat} (h : Kits K D n) (i : Nat) {x : Str} (hx : clsN[i]? = some x) : PySem.W.kitOne K (.ref D) (.ref (He.ga K x)) = some (i == n) := by
  have e := congrArg (fun l : List (Option Bool) => l[i]?) h
  have hi : i < 22 := by
    obtain ⟨z, _⟩ := List.getElem?_eq_some_iff.mp hx
    exact Nat.lt_of_lt_of_eq z rfl
  simp only [List.getElem?_map, hx, Option.map_some] at e
  rw [List.getElem?_range hi] at e
  exact Option.some.inj e
structure Kind (K : PySem.W.Frag) (D : Addr) (n : Nat) : Prop where
  ec : ExcC K D
  kits : Kits K D n
  te : PySem.W.kitOne K (.ref D) (.ref (He.ga K "TurnError")) = some (decide (n < 18))
  ve : PySem.W.kitOne K (.ref D) (.type "ValueError") = some (decide (n < 18))
def excAll (K : PySem.W.Frag) (x : Str) (n : Nat) : Bool := excB K (He.ga K x) && (decide (Kits K (He.ga K x) n) && (decide (PySem.W.kitOne K (.ref (He.ga K x)) (.ref (He.ga K "TurnError")) = some (decide (n < 18))) && (decide (PySem.W.kitOne K (.ref (He.ga K x)) (.type "ValueError") = some (decide (n < 18))) &&
  decide (PySem.W.exmAny K (.ref (He.ga K x)) [.ref (He.ga K "TurnError")] = some (decide (n < 18))))))
theorem excAll_ok {K : PySem.W.Frag} {x : Str} {n : Nat} (h : excAll K x n = true) : Kind K (He.ga K x) n ∧ PySem.W.exmAny K (.ref (He.ga K x)) [.ref (He.ga K "TurnError")] = some (decide (n < 18)) := by
  obtain ⟨h1, h⟩ := He.ba h
  obtain ⟨h2, h⟩ := He.ba h
  obtain ⟨h3, h⟩ := He.ba h
  obtain ⟨h4, h5⟩ := He.ba h
  exact ⟨⟨excB_ok h1, of_decide_eq_true h2, of_decide_eq_true h3, of_decide_eq_true h4⟩, of_decide_eq_true h5⟩
/-- as Kind, of all the classes -/
structure KindF (K : PySem.W.Frag) (D : Addr) (n : Nat) : Prop where
  ec : ExcC K D
  kits : Kits K D n
  te : PySem.W.kitOne K (.ref D) (.ref (He.ga K "TurnError")) = some (decide (n < 18))
  ve : PySem.W.kitOne K (.ref D) (.type "ValueError") = some (decide (n < 18))
  kz : PySem.W.kitOne K (.ref D) (.type "ZeroDivisionError") = some (n == 18)
  ky : PySem.W.kitOne K (.ref D) (.type "KeyError") = some (n == 19)
  ki : PySem.W.kitOne K (.ref D) (.type "IndexError") = some (n == 20)
  kl : PySem.W.kitOne K (.ref D) (.type "LookupError") = some (decide (19 ≤ n))
  kt : PySem.W.kitAny K (.ref D) [.type "KeyError", .type "IndexError"] = some (n == 19 || n == 20)
  x5 : PySem.W.exmAny K (.ref D) [.ref (He.ga K "TurnError"), .ref (He.ga K "ByNought"), .ref (He.ga K "NoName"), .ref (He.ga K "NoPlace"), .ref (He.ga K "NothingDone")] = some true
def excAllF (K : PySem.W.Frag) (x : Str) (n : Nat) : Bool := excB K (He.ga K x) && (decide (Kits K (He.ga K x) n) && (decide (PySem.W.kitOne K (.ref (He.ga K x)) (.ref (He.ga K "TurnError")) = some (decide (n < 18))) && (decide (PySem.W.kitOne K (.ref (He.ga K x)) (.type "ValueError") = some (decide (n < 18))) &&
  (decide (PySem.W.kitOne K (.ref (He.ga K x)) (.type "ZeroDivisionError") = some (n == 18)) && (decide (PySem.W.kitOne K (.ref (He.ga K x)) (.type "KeyError") = some (n == 19)) && (decide (PySem.W.kitOne K (.ref (He.ga K x)) (.type "IndexError") = some (n == 20)) && (decide (PySem.W.kitOne K (.ref (He.ga K x)) (.type "LookupError") = some (decide (19 ≤ n))) &&
  (decide (PySem.W.kitAny K (.ref (He.ga K x)) [.type "KeyError", .type "IndexError"] = some (n == 19 || n == 20)) && decide (PySem.W.exmAny K (.ref (He.ga K x)) [.ref (He.ga K "TurnError"), .ref (He.ga K "ByNought"), .ref (He.ga K "NoName"), .ref (He.ga K "NoPlace"), .ref (He.ga K "NothingDone")] = some true)))))))))
theorem excAllF_ok {K : PySem.W.Frag} {x : Str} {n : Nat} (h : excAllF K x n = true) : KindF K (He.ga K x) n := by
  obtain ⟨h1, h⟩ := He.ba h
  obtain ⟨h2, h⟩ := He.ba h
  obtain ⟨h3, h⟩ := He.ba h
  obtain ⟨h4, h⟩ := He.ba h
  obtain ⟨h5, h⟩ := He.ba h
  obtain ⟨h6, h⟩ := He.ba h
  obtain ⟨h7, h⟩ := He.ba h
  obtain ⟨h8, h⟩ := He.ba h
  obtain ⟨h9, ha⟩ := He.ba h
  exact ⟨excB_ok h1, of_decide_eq_true h2, of_decide_eq_true h3, of_decide_eq_true h4, of_decide_eq_true h5, of_decide_eq_true h6, of_decide_eq_true h7, of_decide_eq_true h8, of_decide_eq_true h9, of_decide_eq_true ha⟩
/-- an own class over ZeroDivisionError -/
def zBase : List Value := [.type "ZeroDivisionError", .type "ArithmeticError", .type "Exception", .type "BaseException", .type "object"]
def excZ (K : PySem.W.Frag) (x : Str) : Bool := PySem.W.excIn K (He.ga K x) zBase "ZeroDivisionError.__new__" && (PySem.W.keepIn K (.ref (He.ga K x)) && (decide (PySem.W.subIn K (.ref (He.ga K x)) (.type "BaseException") = some true) && decide (PySem.W.typeIn K (.ref (He.ga K x)) = some (.type "type"))))
theorem excZ_ok {K : PySem.W.Frag} {x : Str} (h : excZ K x = true) : PySem.W.excIn K (He.ga K x) zBase "ZeroDivisionError.__new__" = true ∧ PySem.W.keepIn K (.ref (He.ga K x)) = true ∧ PySem.W.subIn K (.ref (He.ga K x)) (.type "BaseException") = some true ∧ PySem.W.typeIn K (.ref (He.ga K x)) = some (.type "type") := by
  obtain ⟨h1, h⟩ := He.ba h
  obtain ⟨h2, h⟩ := He.ba h
  obtain ⟨h3, h4⟩ := He.ba h
  exact ⟨h1, h2, of_decide_eq_true h3, of_decide_eq_true h4⟩
end TCX
namespace TC
open PySem PySem.Spec PyProof.Rows L2
/-! the text by places -/
def top (i : Nat) : Stmt := PySem.Challenge.pw_turncouple_k06_roots_of_fractions.main.body.getD i (.Pass ⟨0, 0, 0, 0⟩)
abbrev sWhole : Stmt := top 28
abbrev sShared : Stmt := top 29
abbrev sLowest : Stmt := top 30
abbrev sSumLow : Stmt := top 31
abbrev sSquares : Stmt := top 32
abbrev sFloor : Stmt := top 33
abbrev sPlus : Stmt := top 41
abbrev sTimes : Stmt := top 42
abbrev sSign : Stmt := top 43
abbrev sRootOf : Stmt := top 44
abbrev sNeed : Stmt := top 45
abbrev sMerged : Stmt := top 46
abbrev sOneBottom : Stmt := top 47
abbrev sLowered : Stmt := top 48
abbrev sProducts : Stmt := top 49
abbrev sBounds : Stmt := top 50
abbrev sPen : Stmt := top 54
abbrev sDraw : Stmt := top 55
abbrev sWord : Stmt := top 56
abbrev sLow : Stmt := top 57
abbrev sTold : Stmt := top 65
abbrev sLWhole : Stmt := top 66
abbrev sLaw : Stmt := top 67
abbrev sCleared : Stmt := top 58
abbrev sSum : Stmt := top 59
abbrev sCommon : Stmt := top 61
abbrev sProduct : Stmt := top 62
abbrev sParts : Stmt := top 63
abbrev sSome : Stmt := top 64
abbrev sExact : Stmt := top 40
abbrev sBy : Stmt := top 60
abbrev sInit : Stmt := inClass (top 39) 0
abbrev sEq : Stmt := inClass (top 39) 1
abbrev FnP (K : PySem.W.Frag) (x : Str) (st : Stmt) (f : Addr) (fd : FuncData) : Prop := FunD K x x (defArgs st) (defBody st) (defScope st) [] [] f fd
/-- the primes below 1000 -/
def primes : List Int := [2, 3, 5, 7, 11, 13, 17, 19, 23, 29, 31, 37, 41, 43, 47, 53, 59, 61, 67, 71, 73, 79, 83, 89, 97, 101, 103, 107, 109, 113, 127, 131, 137, 139, 149, 151, 157, 163, 167, 173, 179, 181, 191, 193, 197, 199, 211, 223, 227, 229, 233, 239, 241, 251, 257, 263, 269, 271, 277, 281, 283, 293, 307, 311, 313, 317, 331, 337, 347, 349, 353, 359, 367, 373, 379, 383, 389, 397, 401, 409, 419, 421, 431, 433, 439, 443, 449, 457, 461, 463, 467, 479, 487, 491, 499, 503, 509, 521, 523, 541, 547, 557, 563, 569, 571, 577, 587, 593, 599, 601, 607, 613, 617, 619, 631, 641, 643, 647, 653, 659, 661, 673, 677, 683, 691, 701, 709, 719, 727, 733, 739, 743, 751, 757, 761, 769, 773, 787, 797, 809, 811, 821, 823, 827, 829, 839, 853, 857, 859, 863, 877, 881, 883, 887, 907, 911, 919, 929, 937, 941, 947, 953, 967, 971, 977, 983, 991, 997]
/-! the head: facts by names -/
def dd (x : Str) (st : Stmt) : He.DefD := ⟨(x, none), x, x, defArgs st, defBody st, defScope st, [], []⟩
def dm (m q : Str) (st : Stmt) : He.DefD := ⟨("Exact", some m), m, q, defArgs st, defBody st, defScope st, [], []⟩
def dExact : He.DefD := ⟨("exact", none), "exact", "exact", defArgs sExact, defBody sExact, defScope sExact, [], [("bottom", .int 1), ("root", .int 1)]⟩
def fn : List He.DefD := ([dm "__init__" "Exact.__init__" sInit, dm "__eq__" "Exact.__eq__" sEq, dExact, dd "is_whole" sWhole, dd "shared" sShared, dd "in_lowest" sLowest, dd "sum_in_lowest" sSumLow, dd "squares_out" sSquares, dd "floor_root" sFloor, dd "plus" sPlus, dd "times" sTimes, dd "sign" sSign, dd "root_of" sRootOf, dd "need_exact" sNeed, dd "merged" sMerged, dd "on_one_bottom" sOneBottom] : List He.DefD) ++ ([dd "lowered" sLowered, dd "products" sProducts, dd "bounds" sBounds, dd "_law_pen" sPen, dd "_law_draw" sDraw, dd "_law_word" sWord, dd "_law_low" sLow, dd "_law_told" sTold, dd "_law_whole" sLWhole, dd "law" sLaw] : List He.DefD)
def fa : List He.Fa := ([.glo "Exact", .glo "exact", .glo "PRIMES", .int "HIGHEST_ROOT" 1000000, .int "TOO_LONG" (10 ^ 60), .int "FIRST_BITS" 64, .cls "Exact", .noat "Exact" "parts", .mkr "Exact", .meth "Exact" "__eq__", .glo "is_whole", .glo "shared", .glo "in_lowest", .glo "sum_in_lowest", .glo "squares_out", .glo "floor_root"] : List He.Fa) ++ ([.glo "plus", .glo "times", .glo "sign", .glo "root_of", .glo "need_exact", .glo "merged", .glo "on_one_bottom", .glo "lowered", .glo "products", .glo "bounds", .glo "_law_pen", .glo "_law_draw", .glo "_law_word", .glo "_law_low", .glo "_law_told", .glo "_law_whole"] : List He.Fa) ++ ([.glo "law", .glo "TurnError", .glo "NoNumber", .glo "NoSize", .glo "NoOffset", .glo "NoTriple", .glo "NoTable", .glo "TooWide", .glo "NoNet", .glo "NoRow", .glo "NoStanding", .glo "NoTree", .glo "NoWay", .glo "NoHalf", .glo "NoLinking", .glo "NoDeed"] : List He.Fa) ++ ([.glo "NoQuestion", .glo "Empty", .glo "NotParted", .glo "NoText", .glo "NoName", .glo "NoPlace", .glo "ByNought", .glo "NothingDone", .exc "NoNumber", .free "isinstance", .free "int", .free "bool", .free "abs", .free "sorted", .free "list", .free "tuple"] : List He.Fa) ++ ([.free "len", .free "range", .free "reversed", .free "str", .free "dict", .free "ValueError", .free "ZeroDivisionError", .free "KeyError", .free "IndexError", .free "LookupError"] : List He.Fa)
def others : List String := ["int", "NoneType", "str", "tuple", "list", "bool", "dict"]
/-- more facts: the tuple of primes, what == and isinstance ask of Exact -/
def exN (K : PySem.W.Frag) : Bool :=
  He.tupB K "PRIMES" (primes.map He.Dv.int) &&
  (He.eqO (PySem.W.findIn K (.ref (He.ga K "Exact")) "__ne__") (some (some (.builtin "object.__ne__"))) &&
  (He.eqO (PySem.W.findIn K (.ref (He.ga K "Exact")) "__class__") (some (some (.builtin "object.__class__"))) &&
  (He.eqO (PySem.W.specialIn K (.builtin "object.__class__") "__get__") (some (some (.builtin "getset_descriptor.__get__"))) &&
  (decide (PySem.W.takesIn K (.builtin "object.__class__") = some true) &&
  (decide (PySem.W.mroIn K (He.ga K "Exact") (.type "object") = some true) &&
  (others.all fun t => decide (PySem.W.subIn K (.type t) (.ref (He.ga K "Exact")) = some false) && decide (PySem.W.kitOne K (.type t) (.ref (He.ga K "Exact")) = some false)))))))
def exB (K : PySem.W.Frag) : Bool := exN K && (TCX.excAll K "NoNumber" 5 && (TCX.excAllF K "NoNumber" 5 && decide (PySem.W.kitOne K (.ref (He.ga K "Exact")) (.type "str") = some false)))
def tf : List He.Defn := []
def hk : PySem.W.Hook := He.hookX 5 fa fn [] tf exB
abbrev R : PySem.W.OpenRow := PySem.W.OpenLaw.row PySem.Challenge.rw_turncouple_k06_roots_of_fractions
def ob (s : PySem.W.SharedT) : He.AlX := He.obsX 5 fa fn [] tf exB (HandSHeadRun.getT s)
theorem ob_eq (s : PySem.W.SharedT) : ob s = hk.obs s.abs := He.obsX_eq (s := s.abs) (HandSHeadRun.getT_eq s)
def loose : List PySem.Str := (["TurnError", "NoNumber", "NoSize", "NoOffset", "NoTriple", "NoTable", "TooWide", "NoNet", "NoRow", "NoStanding", "NoTree", "NoWay", "NoHalf", "NoLinking", "NoDeed", "NoQuestion"] : List PySem.Str) ++ (["Empty", "NotParted", "NoText", "NoName", "NoPlace", "ByNought", "NothingDone", "PRIMES", "BLOCK_FIGURES", "BLOCK", "is_whole", "shared", "in_lowest", "sum_in_lowest", "squares_out", "floor_root"] : List PySem.Str) ++ (["figures", "HIGHEST_ROOT", "TOO_LONG", "FIRST_BITS", "Exact", "exact", "plus", "times", "sign", "root_of", "need_exact", "merged", "on_one_bottom", "lowered", "products", "bounds"] : List PySem.Str) ++ (["text_of", "text_of_part", "_law_pen", "_law_draw", "_law_word", "_law_low", "_law_cleared", "_law_sum", "_law_by", "_law_common", "_law_product", "_law_parts", "_law_some", "_law_told", "_law_whole"] : List PySem.Str)
end TC
/-! Rules of my own: == and != by an own __eq__ with either answer, str of an instance, enumerate of a tuple. -/
namespace TCA
open PySem PySem.Spec PyProof.Rows L2
/-! ### enumerate(tuple) -/
theorem meets_enum1 {v : Value} {o : Obj} {H : Heap → Prop} (B : Begins v o H) :
    Meets (Builtin.«enumerate.__new__» ⟨[.type "enumerate", v], []⟩) (fun _ R s => H s.heap ∧
      R (.ok (.ret (.ref (s.heap.push o).objs.size))) { s with heap := (s.heap.push o).push { cls := .type "enumerate", data := .fields #[.none, .bool false, .ref s.heap.objs.size, rawInt 0, .none, .none] } }) :=
  .of_wp fun prog w A R s h => by
    obtain ⟨hp, g, d, tk, os⟩ := s; obtain ⟨h1, h⟩ := h
    have hsub := sub_enumerate
    have q1 : ∀ {A' : Around} {E : Value → Shared → Prop} {Q : Value → Shared → Prop}, Q (.ref hp.objs.size) ⟨hp.push o, g, d, tk, os⟩ → wpAny (model prog w) A' (pyIter v) Q E ⟨hp, g, d, tk, os⟩ :=
      fun q => B.iter prog w _ _ ⟨hp, g, d, tk, os⟩ _ h1 q
    wp_walk using q1
    refine wpAny_stack_any fun st => wpAny_pure ?_
    split
    · rename_i c _ _ _ _ _
      cases (c == Value.type "enumerate")
      · wp_walk using q1
        exact ⟨_, rfl, h⟩
      · wp_walk using q1
        exact ⟨_, rfl, h⟩
    · wp_walk using q1
      exact ⟨_, rfl, h⟩
theorem enum_begins1 {prog : Program} {w : World} {A : Around} {E : Value → Shared → Prop} {s : Shared} {v : Value} {o : Obj} {H : Heap → Prop} {Q : Value → Shared → Prop} (B : Begins v o H) (h1 : H s.heap)
    (h : ∀ h', IsEnum h' (s.heap.objs.size + 1) s.heap.objs.size 0 .none → h'.get? s.heap.objs.size = some o → h'.objs.size = s.heap.objs.size + 2 →
      (∀ b o, s.heap.get? b = some o → h'.get? b = some o) → Q (.ref (s.heap.objs.size + 1)) { s with heap := h' }) :
    wpAny (model prog w) A (call (.type "enumerate") [v]) Q E s := by
  refine callType_new F.called_enumerate (by decide) (F.typeCall_enumerate_1 _) (F.newCall_enumerate_1 _) (fun obj => F.args_object_init_2 obj _) F.entry_enumerate_new
    (meets_enum1 B) ⟨h1, ?_⟩
  have hz : (s.heap.push o).objs.size = s.heap.objs.size + 1 := Heap.size_push ..
  show _ ∧ _
  rw [hz]
  have he : IsEnum ((s.heap.push o).push { cls := .type "enumerate", data := .fields #[.none, .bool false, .ref s.heap.objs.size, rawInt 0, .none, .none] }) (s.heap.objs.size + 1) s.heap.objs.size 0 .none := by
    have := Heap.get?_push_size (s.heap.push o) (o := { cls := .type "enumerate", data := .fields #[.none, .bool false, .ref s.heap.objs.size, rawInt 0, .none, .none] }) rfl
    rw [hz] at this; exact this
  refine ⟨⟨_, he, rfl⟩, h _ he (Heap.get?_push_of_some _ (Heap.get?_push_size _ B.free)) (by rw [Heap.size_push, hz]) fun b o x => Heap.get?_push_of_some _ (Heap.get?_push_of_some _ x)⟩
/-- the tuple at a of xs, each item in a new pair -/
def Iet (K : PySem.W.Frag) (a : Addr) (xs : List V) : It :=
  ⟨fun i H => i < xs.length ∧ SqT K H a xs, fun i H v H' => ∃ T x, v = .ref T ∧ H T = none ∧ H' = upd H T (.tup [.int (i : Nat), x]) ∧ xs[i]? = some x, fun i H => xs.length ≤ i ∧ SqT K H a xs⟩
theorem turn_enumT {P : Program} {w : World} {K : PySem.W.Frag} {elts : List Expr} {kk : Nat} {tpos : Pos} (a e it : Addr) (xs : List V) :
    Turn P w K (.Tuple elts kk tpos) (Iet K a xs) [e, it] e (fun i h => (∃ old, IsEnum h e it ((i : Nat) : Int) old) ∧ h.IsTupleIter it a i ∧ e ≠ it ∧ a ≠ it ∧ e ≠ a ∧ i ≤ xs.length) where
  mem := by simp
  obj := fun i h st b hb => by
    obtain ⟨⟨old, he⟩, ⟨o, ho, hc, hd⟩, _⟩ := st
    have e' : b = e ∨ b = it := by simpa using hb
    rcases e' with z | z
    · rw [z]; exact ⟨_, he, fun v q => nomatch q⟩
    · rw [z]; exact ⟨o, ho, fun v q => by rw [hd] at q; cases q⟩
  keep := fun i h h' st k => let ⟨⟨old, he⟩, hi, hne⟩ := st; ⟨⟨old, k e (by simp) _ he⟩, hi.at fun o q => k it (by simp) o q, hne⟩
  item := by
    intro X hP hw hK hc i pins s σ H E I hf st hg
    subst hP hw hK
    obtain ⟨⟨old, he⟩, hit, hne, hai, hea, hle⟩ := st
    obtain ⟨hlt, hq⟩ := hg
    obtain ⟨its, rv, p, hz⟩ := I.tuple hq
    have hl := rv.length
    have hel : e < s.heap.objs.size := Heap.lt_size he
    have hil : it < s.heap.objs.size := by obtain ⟨_, q, _⟩ := hit; exact Heap.lt_size q
    have hh : X.A.in1.handled = none := I.ok.hd hc
    have D := Draws.tuple (prog := X.prog) (w := X.w) hh it a hai its.toArray
    refine wpAny_pyNext_enum_itemD D he ⟨hit, p⟩ (by simp; omega) hne (by simp; exact ⟨hne, hea⟩) fun u h' tk hu ho hst hT hsz hk => ?_
    obtain ⟨hit', _⟩ := hst
    have hu2 : its[i]? = some u := by simpa using hu
    have hx : xs[i]? = some xs[i] := List.getElem?_eq_getElem hlt
    obtain ⟨u2, hu3, ru⟩ := rv.get hx
    have eu : u2 = u := Option.some.inj (hu3.symm.trans hu2)
    subst eu
    refine ⟨_, rfl, wpAny_letOwnedTupleGo_enum (s := { s with heap := h', toks := tk + 1 }) ho fun h'' he' sb => ?_⟩
    have hT2 : h''.get? s.heap.objs.size = some { cls := .type "tuple", data := .seq #[.int i tk, u2] } := (sb.2 _ (Nat.ne_of_gt hel)).trans hT
    have new : ObjOk X.prog X.w (upd H s.heap.objs.size (.tup [.int (i : Nat), xs[i]])) h'' s.heap.objs.size (.tup [.int (i : Nat), xs[i]]) :=
      ⟨by show 2 ≤ sizeLine; decide, [.int i tk, u2], .cons ⟨_, rfl⟩ (.cons ru .nil), ⟨_, hT2, rfl, _, rfl⟩⟩
    have I1 : Inv X pins σ (upd H s.heap.objs.size (.tup [.int (i : Nat), xs[i]])) { s with heap := h'', toks := tk + 1 } :=
      I.turnedNew (ch := [e, it]) (fun b ob hb q => (sb.2 b (fun z => hb (by simp [z]))).trans (hk b ob (fun z => hb (by simp [z])) (fun z => hb (by simp [z])) q)) hf (Nat.le_refl _) new
    refine ⟨.ref s.heap.objs.size, _, I1, rfl, ⟨_, xs[i], rfl, I.hok.fresh (Nat.le_refl _), rfl, hx⟩, ⟨⟨u2, ?_⟩, hit'.at fun o q => (sb.2 it (Ne.symm hne)).trans q, hne, hai, hea, hlt⟩, fun b hb => ?_⟩
    · have e1 : ((i + 1 : Nat) : Int) = (i : Int) + 1 := by omega
      rw [e1]; exact he'
    · have hb' : b < s.heap.objs.size := by
        have e' : b = e ∨ b = it := by simpa using hb
        rcases e' with z | z
        · rw [z]; exact hel
        · rw [z]; exact hil
      rw [upd_ne (Nat.ne_of_lt hb')]
      exact (hf b hb).1
  done := by
    intro X hP hw hK hc i pins s σ H E I hf st hg
    subst hP hw hK
    obtain ⟨⟨old, he⟩, hit, hne, hai, hea, hle⟩ := st
    obtain ⟨hge, hq⟩ := hg
    obtain ⟨its, rv, p, hz⟩ := I.tuple hq
    obtain ⟨f0, f1, f2, f3, f4, f5⟩ := hf it (by simp)
    have hl := rv.length
    have hh : X.A.in1.handled = none := I.ok.hd hc
    have D := Draws.tuple (prog := X.prog) (w := X.w) hh it a hai its.toArray
    have ei : i = its.toArray.size := by simp; omega
    subst ei
    exact wpAny_pyNext_enum_endD D he ⟨hit, p⟩ fun h' eb => ⟨rfl, I.turned (t' := s.toks) (fun b o hb q => eb b o hb q) f0 f1 f3 f4 f5⟩
  self := fun A i s Q E st h => let ⟨⟨_, he⟩, _⟩ := st; wpAny_pyIter_enum he h
def iEnumT (K : PySem.W.Frag) (ta : TA) : TI := fun σ H R => ta σ H fun vs H1 => ∃ a xs, vs = [.ref a] ∧ SqT K H1 a xs ∧ R (Iet K a xs) H1
theorem pi_enumT {X : Cx} {e : Expr} {ta : TA} {p pos tpos : Pos} {elts : List Expr} {kk : Nat} (hg : Gl X "enumerate") (hm : X.mg "enumerate" = none) (ha : PA X [e] ta) (hs : starEach [e] X.env = [(false, eval e X.env)] := by rfl) :
    PI X (.Tuple elts kk tpos) (.Call (.Name "enumerate" p) [e] [] pos) (iEnumT X.K ta) := by
  refine ⟨fun pins s σ H R I h => ?_⟩
  refine Call_ (ld_blt I hg hm boot_enumerate (PyProof.Rows.callWith_type1 (thn (ha.run pos pins s σ H _ I h) fun us s1 ⟨vs, H1, I1, r1, q1⟩ => ?_) hs rfl))
  obtain ⟨a, xs, ex, hq, q⟩ := q1
  subst ex
  cases r1 with
  | cons r rr =>
    cases rr
    cases r
    obtain ⟨its, rv, p', hz⟩ := I1.tuple hq
    have hal : a < s1.heap.objs.size := by obtain ⟨o, h1, _⟩ := p'; exact Heap.lt_size h1
    refine enum_begins1 (begins_tuple a its.toArray) p' fun h' he hit hsz hk => wpAny_pyIter_enum he ?_
    have I2 : Inv X pins σ H1 { s1 with heap := h' } := I1.kept (t' := s1.toks) hk
    refine ⟨s1.heap.objs.size + 1, [s1.heap.objs.size + 1, s1.heap.objs.size], _, _, H1, rfl, I2, turn_enumT a (s1.heap.objs.size + 1) s1.heap.objs.size xs, ⟨⟨.none, he⟩, ⟨_, hit, rfl, rfl⟩, Nat.succ_ne_self _, Nat.ne_of_lt hal, Nat.ne_of_gt (Nat.lt_succ_of_lt hal), Nat.zero_le _⟩, fun b hb => ?_, q⟩
    have e' : b = s1.heap.objs.size + 1 ∨ b = s1.heap.objs.size := by simpa using hb
    have hle : s1.heap.objs.size ≤ b := by
      rcases e' with z | z
      · rw [z]; exact Nat.le_add_right _ _
      · rw [z]; exact Nat.le_refl _
    exact I1.fpOk hle (I1.hok.fresh hle)
/-! ### == and != by an own __eq__ -/
section
variable {X : Cx} {CX : CXT} {n : Nat} {C f : Addr} {fd : FuncData} {ps : List Str} {sp : Sp} {E : XK}
/-- the own method runs somewhere below -/
theorem run_sub {A : Around} {pins : List (Addr × Obj)} {σ : L2.St} {H : Hp} {s : Shared} {Q : VK} {us : List Value} {vs : List V} (F : FnOk X.prog X.w X.K X.mg X.base CX n f fd ps sp) (hb : Binds X.K fd ps []) (hx : Passes CX X E)
    (sb : Sub X n A) (I : Inv X pins σ H s) (r : Vals vs us) (h : sp vs H Q E) : wpAny (model X.prog X.w) A (call (.ref f) us) (EP X pins σ Q) X.xe s := by
  have e0 : Env0 X.prog X.w X.K X.mg X.base A X.stack s H := by
    have e := I.env0
    exact ⟨by rw [sb.fr]; exact e.frames, e.mod, e.bs, e.bsz, e.funs, e.frf, e.hok, e.bare⟩
  have hl : us.length = ps.length := by rw [← r.length]; exact F.len _ _ _ _ h
  refine wpAny_call (codeAny_mono (F.run A X.stack s H ⟨us, []⟩ us vs Q E sb.room e0 (by
    have := hb s us I.kIn (by simpa using hl)
    simpa using this) r h) fun r s' hq => ?_)
  cases r with
  | error e => exact hx pins σ H s e s' I hq
  | ok fl =>
    cases fl with
    | ret w => exact I.after hq
    | next => exact False.elim hq
    | brk => exact False.elim hq
    | cont => exact False.elim hq
/-- x == y, x an instance of the class at C with an own __eq__ that hands back a truth -/
def rEqO (K : PySem.W.Frag) (C : Addr) (sp : Sp) (E : XK) : R2 := fun x y H Q => ∃ a dx fs t, x = .ref a ∧ H a = some (.ins C dx fs) ∧ TyX K H y t ∧ PySem.W.notFirst K C t = true ∧
  sp [x, y] H (fun v H' => ∃ b, v = .bl b ∧ Q (.bl b) H') E
theorem op_eqO (F : FnOk X.prog X.w X.K X.mg X.base CX n f fd ps sp) (hs : PySem.W.findIn X.K (.ref C) "__eq__" = some (some (.ref f))) (hf : PySem.W.isFn X.K (.ref f) = true) (hb : Binds X.K fd ps []) (hx : Passes CX X E)
    (hr : Room n X.A) : OpR X (compareOp .Eq) (rEqO X.K C sp E) := by
  intro pins s σ H x y v u Q I rx ry hq
  obtain ⟨a, dx, fs, t, rfl, ha, ty, nf, q⟩ := hq
  cases (show v = Value.ref a from rx)
  obtain ⟨mA, J, _⟩ := ins_get I.hok ha
  obtain ⟨od, J, _⟩ := J.look
  obtain ⟨m, hF⟩ := I.fr
  obtain ⟨Pz, Z, pz, _⟩ := kit_of I ry ty
  have hu : X.A.units < cLine := Nat.lt_of_succ_lt (hu_of hr)
  refine PySem.W.cmp_K (op := .Eq) (tb := t) hu hF I.ok.mod.kin J (Z.ty _ _ I.kIn pz) nf hs hf ?_
  refine wpAny_mono (run_sub F hb hx ⟨hr, rfl⟩ I (.cons rx (.cons ry .nil)) q) (fun r s' hz => ?_) fun _ _ z => z
  obtain ⟨z, H', I', rz, b, rfl, qb⟩ := hz
  cases (show r = Value.bool b from rz)
  exact ⟨.bl b, H', I', rfl, qb⟩
/-- x != y: the default __ne__ asks the own __eq__ -/
def rNeO (K : PySem.W.Frag) (C : Addr) (sp : Sp) (E : XK) : R2 := fun x y H Q => ∃ a dx fs t, x = .ref a ∧ H a = some (.ins C dx fs) ∧ TyX K H y t ∧ PySem.W.notFirst K C t = true ∧
  sp [x, y] H (fun v H' => ∃ b, v = .bl b ∧ Q (.bl (!b)) H') E
theorem ifBound_B {M : Model} {A : Around} {E : Value → Shared → Prop} {s : Shared} {K : PySem.W.Frag} {x C : Addr} {ox : Obj} {od : Option Obj} {name : Str} {id : String} {args : List Value} {Q : Option Value → Shared → Prop} (X : K.In s.heap) (I : PySem.W.InstAt s.heap x ox C od)
    (hs : PySem.W.findIn K (.ref C) name = some (some (.builtin id))) (hb : ∀ self, bindSpecial (.builtin id) self = pure (.builtin id, [self]))
    (h : wpAny M A (call (.builtin id) (.ref x :: args)) (fun v => Q (some v)) E s) : wpAny M A (callSpecialIfBound? (.ref x) name args) Q E s := by
  simp only [callSpecialIfBound?, bindSpecialIfBound?]
  refine wpAny_holding (wpAny_bind (wpAny_bind (wpAny_bind (I.type.here ((PySem.W.looks_findIn X hs).here ?_)))))
  refine wpAny_bind (wpAny_askSetting (wpAny_ite ?_))
  have fin : wpAny M A (call (.builtin id) ([.ref x] ++ args) >>= fun v => pure (some v)) Q E s := wpAny_bind (wpAny_mono h (fun v s' h' => wpAny_pure h') fun _ _ h' => h')
  have L := (PySem.W.Looks.of_pure (M := M) (h := s.heap) (hb (.ref x)))
  split
  · exact wpAny_bind (L.here (wpAny_pure (by exact fin)))
  · exact wpAny_tryCatch (wpAny_bind (L.here (wpAny_pure (by exact fin))))
theorem op_neO (F : FnOk X.prog X.w X.K X.mg X.base CX n f fd ps sp) (hs : PySem.W.findIn X.K (.ref C) "__eq__" = some (some (.ref f))) (hf : PySem.W.isFn X.K (.ref f) = true) (hb : Binds X.K fd ps []) (hx : Passes CX X E)
    (hn : PySem.W.findIn X.K (.ref C) "__ne__" = some (some (.builtin "object.__ne__"))) (hm : PySem.W.mroIn X.K C (.type "object") = some true)
    (hr : Room (n + 1) X.A) : OpR X (compareOp .NotEq) (rNeO X.K C sp E) := by
  intro pins s σ H x y v u Q I rx ry hq
  obtain ⟨a, dx, fs, t, rfl, ha, ty, nf, q⟩ := hq
  cases (show v = Value.ref a from rx)
  obtain ⟨mA, J, _⟩ := ins_get I.hok ha
  obtain ⟨od, J, _⟩ := J.look
  obtain ⟨Pz, Z, pz, _⟩ := kit_of I ry ty
  have hu : X.A.units < cLine := Nat.lt_of_succ_lt (hu_of hr)
  have hu1 : X.A.in1.units < cLine := hu_of hr
  have K0 := I.kIn
  have run := run_sub F hb hx (A := X.A.in1) ⟨hr.in1, rfl⟩ I (.cons rx (.cons ry .nil)) q
  have one : wpAny (model X.prog X.w) X.A (tryCompare (.ref a) "__ne__" u) (fun r s' => ∃ v, r = some v ∧ EP X pins σ Q v s') X.xe s := by
    unfold tryCompare
    refine wpAny_bind (ifBound_B K0 J hn PySem.F.cmp_object.ne.bind ?_)
    refine wpAny_call (codeAny_call_builtin PySem.F.cmp_object.ne.plain PySem.F.cmpEntry_ne (PySem.W.check_slot (i := "object.__ne__") (owner := "object") (n := "__ne__") PySem.F.cmpKind_ne PySem.F.cmpSplit_ne (J.type.andThen (PySem.W.looks_mroIn K0 hm)) (PySem.F.cmpArgs_ne _ _) ?_))
    unfold Builtin.«object.__ne__»
    refine wpAny_bind (m := slotArgs "__ne__" 1 _) (wpAny_pure ?_)
    refine wpAny_bind (m := cRoomFor _ _) (wpAny_cRoomFor hu1 ?_)
    refine wpAny_bind (m := callSpecialIfBound? (.ref a) (Str.ofString "__eq__") _) (PySem.W.ifBound_K K0 J hs hf (wpAny_mono run (fun r s' hz => ?_) fun _ _ z => z))
    obtain ⟨z, H', I', rz, b, rfl, qb⟩ := hz
    cases (show r = Value.bool b from rz)
    refine wpAny_bind (wpAny_truthy_bool ?_)
    exact wpAny_pure (wpAny_pure ⟨_, rfl, .bl (!b), H', I', rfl, qb⟩)
  show wpAny (model X.prog X.w) X.A (richCompare .NotEq (.ref a) u) (EP X pins σ Q) X.xe s
  unfold richCompare
  simp only [oneThing_ref]
  refine wpAny_holding (wpAny_bind (wpAny_cRoomFor hu ?_))
  refine wpAny_bind (J.type.here (wpAny_bind ((Z.ty _ _ I.kIn pz).here ?_)))
  split
  · rename_i q2
    have e : PySem.W.subIn X.K t (.ref C) = some false := by
      rcases Bool.or_eq_true_iff.mp nf with e | e
      · rw [beq_iff_eq.mp e] at q2; simp at q2
      · exact beq_iff_eq.mp e
    refine wpAny_bind ((PySem.W.looks_subIn K0 e).here ?_)
    simp only [Bool.false_eq_true, if_false]
    refine wpAny_bind (wpAny_mono one (fun r s' z => ?_) fun _ _ e => e)
    obtain ⟨v, rfl, hq⟩ := z
    exact wpAny_pure hq
  · refine wpAny_bind (wpAny_pure ?_)
    simp only [Bool.false_eq_true, if_false]
    refine wpAny_bind (wpAny_mono one (fun r s' z => ?_) fun _ _ e => e)
    obtain ⟨v, rfl, hq⟩ := z
    exact wpAny_pure hq
/-! ### str(x) by an own __str__ -/
def rStrO (C : Addr) (sp : Sp) (E : XK) : List V → Hp → VK → Prop := fun xs H Q => ∃ a dx fs, xs = [.ref a] ∧ H a = some (.ins C dx fs) ∧ sp [.ref a] H (fun v H' => ∃ z, v = .str z ∧ Q (.str z) H') E
theorem call_strO (F : FnOk X.prog X.w X.K X.mg X.base CX n f fd ps sp) (hs : PySem.W.findIn X.K (.ref C) "__str__" = some (some (.ref f))) (hf : PySem.W.isFn X.K (.ref f) = true) (hb : Binds X.K fd ps []) (hx : Passes CX X E)
    (hr : Room (n + 2) X.A) : CallR X (.type "str") (rStrO C sp E) := by
  intro pins s σ H xs us Q I r hq
  obtain ⟨a, dx, fs, rfl, ha, q⟩ := hq
  obtain ⟨u, rfl, rx⟩ : ∃ u, us = [u] ∧ RelV (.ref a) u := by
    cases r with
    | cons r rr => cases rr; exact ⟨_, rfl, r⟩
  cases (show u = Value.ref a from rx)
  obtain ⟨mA, J, _⟩ := ins_get I.hok ha
  obtain ⟨od, J, _⟩ := J.look
  have hr2 : Room n X.A.in1.in1 := hr.in1.in1
  have hu : X.A.in1.in1.units < cLine := Nat.lt_of_succ_lt (hu_of hr2)
  refine PySem.W.kso_call hu I.kIn J hs hf ?_
  refine wpAny_mono (run_sub F hb hx (A := X.A.in1.in1) ⟨hr2, rfl⟩ I (.cons rx .nil) q) (fun r s' hz => ?_) fun _ _ z => z
  obtain ⟨z, H', I', rz, x, rfl, qb⟩ := hz
  obtain ⟨t, e⟩ := (show ∃ t, r = Value.str x t from rz)
  cases e
  exact ⟨.str x, H', I', ⟨t, rfl⟩, qb⟩
/-! ### // by a number of either sign -/
def CDivNW (_ j : Int) : Prop := j ≠ 0 ∧ j.natAbs.log2 < 9000
theorem op_fdivNW : OpR X (binaryOp .FloorDiv) (rI CDivNW fun i j => .int (i.fdiv j)) := opI fun _ _ _ _ _ _ _ hc q => floordiv_int hc.1 q (.inl (PyProof.noPylong_of_log2 hc.2))
end
end TCA
/-! The mathematics, in plain Lean. -/
namespace TCM
/-! ### the greatest common divisor, by steps with Python's remainder -/
theorem gcd_fmod (a b : Int) : Int.gcd b (a.fmod b) = Int.gcd a b := by
  have e : a.fmod b = a - b * a.fdiv b := by
    have := Int.fmod_add_mul_fdiv a b
    omega
  rw [e, Int.gcd_comm a b]
  apply Nat.dvd_antisymm
  · refine Int.dvd_gcd (Int.gcd_dvd_left ..) ?_
    have h1 : ((Int.gcd b (a - b * a.fdiv b) : Nat) : Int) ∣ b := Int.gcd_dvd_left ..
    have h2 : ((Int.gcd b (a - b * a.fdiv b) : Nat) : Int) ∣ a - b * a.fdiv b := Int.gcd_dvd_right ..
    have h3 := Int.dvd_add h2 (Int.dvd_mul_of_dvd_left (c := a.fdiv b) h1)
    have e2 : a - b * a.fdiv b + b * a.fdiv b = a := by omega
    rw [e2] at h3
    exact h3
  · refine Int.dvd_gcd (Int.gcd_dvd_left ..) ?_
    have h1 : ((Int.gcd b a : Nat) : Int) ∣ b := Int.gcd_dvd_left ..
    have h2 : ((Int.gcd b a : Nat) : Int) ∣ a := Int.gcd_dvd_right ..
    exact Int.dvd_sub h2 (Int.dvd_mul_of_dvd_left (c := a.fdiv b) h1)
theorem fmod_lt (a b : Int) (h : b ≠ 0) : (a.fmod b).natAbs < b.natAbs := by
  rcases Int.lt_or_gt_of_ne h with hb | hb
  · have h1 : a.fmod b = a % b + if 0 ≤ b ∨ b ∣ a then 0 else b := Int.fmod_eq_emod
    have := Int.emod_nonneg a h
    have := Int.emod_lt_of_pos a (b := -b) (by omega)
    rw [Int.emod_neg] at this
    rw [h1]
    split
    · omega
    · rename_i z
      have : a % b ≠ 0 := fun e => z (.inr (Int.dvd_of_emod_eq_zero e))
      omega
  · have h1 := Int.fmod_nonneg_of_pos a hb
    have h2 := Int.fmod_lt_of_pos a hb
    omega
theorem abs_eq (i : Int) : (if i < 0 then -i else i) = ((i.natAbs : Nat) : Int) := by
  split <;> omega
/-! ### a fraction in lowest terms -/
def sgn (t b : Int) : Int := if b < 0 then -((Int.gcd t b : Nat) : Int) else ((Int.gcd t b : Nat) : Int)
def low (t b : Int) : Int × Int := (t.fdiv (sgn t b), b.fdiv (sgn t b))
/-- as the law says it -/
def lowL (t b : Int) : Int × Int := if 0 < b then (t.fdiv ((Int.gcd t b : Nat) : Int), b.fdiv ((Int.gcd t b : Nat) : Int)) else ((-t).fdiv ((Int.gcd t b : Nat) : Int), (-b).fdiv ((Int.gcd t b : Nat) : Int))
theorem low_eq (t b : Int) (h : b ≠ 0) : low t b = lowL t b := by
  unfold low lowL sgn
  by_cases hb : b < 0
  · rw [if_pos hb, if_neg (by omega)]
    have e1 := Int.neg_fdiv_neg (-t) ((Int.gcd t b : Nat) : Int)
    have e2 := Int.neg_fdiv_neg (-b) ((Int.gcd t b : Nat) : Int)
    rw [Int.neg_neg] at e1 e2
    rw [e1, e2]
  · rw [if_neg hb, if_pos (by omega)]
theorem gcd_pos (t b : Int) (h : b ≠ 0) : 0 < Int.gcd t b := by
  have : Int.gcd t b ≠ 0 := fun e => h (Int.gcd_eq_zero_iff.mp e).2
  omega
theorem gcd_le (t b : Int) (h : b ≠ 0) : Int.gcd t b ≤ b.natAbs := by
  show Nat.gcd t.natAbs b.natAbs ≤ b.natAbs
  exact Nat.gcd_le_right _ (by omega)
theorem sgn_ne (t b : Int) (h : b ≠ 0) : sgn t b ≠ 0 := by
  have := gcd_pos t b h
  unfold sgn
  split <;> omega
theorem sgn_abs (t b : Int) : (sgn t b).natAbs = Int.gcd t b := by
  unfold sgn
  split <;> omega
/-- the quotients are no larger -/
theorem fdiv_abs (t d : Int) (h : d ≠ 0) (hd : d ∣ t) : (t.fdiv d).natAbs ≤ t.natAbs := by
  obtain ⟨k, rfl⟩ := hd
  rw [Int.mul_fdiv_cancel_left k h, Int.natAbs_mul]
  exact Nat.le_mul_of_pos_left _ (by omega)
theorem sgn_dvd (t b : Int) : sgn t b ∣ t ∧ sgn t b ∣ b := by
  have h1 : ((Int.gcd t b : Nat) : Int) ∣ t := Int.gcd_dvd_left ..
  have h2 : ((Int.gcd t b : Nat) : Int) ∣ b := Int.gcd_dvd_right ..
  unfold sgn
  split
  · exact ⟨Int.neg_dvd.mpr h1, Int.neg_dvd.mpr h2⟩
  · exact ⟨h1, h2⟩
theorem low_abs (t b : Int) (h : b ≠ 0) : (low t b).1.natAbs ≤ t.natAbs ∧ (low t b).2.natAbs ≤ b.natAbs :=
  ⟨fdiv_abs t _ (sgn_ne t b h) (sgn_dvd t b).1, fdiv_abs b _ (sgn_ne t b h) (sgn_dvd t b).2⟩
theorem low_pos (t b : Int) (h : b ≠ 0) : 0 < (low t b).2 := by
  obtain ⟨k, hk⟩ := (sgn_dvd t b).2
  have hs := sgn_ne t b h
  have e : (low t b).2 = k := by
    show b.fdiv (sgn t b) = k
    rw [hk, ← hk]
    have e2 : b.fdiv (sgn t b) = (sgn t b * k).fdiv (sgn t b) := by rw [← hk]
    rw [e2]
    exact Int.mul_fdiv_cancel_left k hs
  rw [e]
  have g0 := gcd_pos t b h
  unfold sgn at hk
  by_cases hb : b < 0
  · rw [if_pos hb] at hk
    rcases Int.lt_trichotomy k 0 with z | z | z
    · exfalso
      have := Int.mul_nonneg_of_nonpos_of_nonpos (a := -((Int.gcd t b : Nat) : Int)) (b := k) (by omega) (by omega)
      omega
    · rw [z] at hk
      omega
    · exact z
  · rw [if_neg hb] at hk
    rcases Int.lt_trichotomy k 0 with z | z | z
    · exfalso
      have := Int.mul_nonneg (a := ((Int.gcd t b : Nat) : Int)) (b := -k) (by omega) (by omega)
      rw [Int.mul_neg] at this
      omega
    · rw [z] at hk
      omega
    · exact z
theorem low_one (t : Int) : low t 1 = (t, 1) := by
  unfold low sgn
  rw [if_neg (by decide), Int.gcd_one]
  show (t.fdiv 1, (1 : Int).fdiv 1) = (t, 1)
  rw [Int.fdiv_one]
  rfl
/-! ### squares taken out -/
/-- while n % (p * p) == 0: n //= p * p; o *= p -/
def whl : Nat → Int → Int → Int → Int × Int
  | 0, _, n, o => (n, o)
  | k + 1, p, n, o => if n % (p * p) = 0 then whl k p (n / (p * p)) (o * p) else (n, o)
/-- as squares_out goes on: over the primes, until 1 is left: (outside, inside, rest) -/
def sqL : List Int → Int → Int → Int → Int × Int × Int
  | [], n, o, i => (o, i, n)
  | p :: ps, n, o, i => if n = 1 then (o, i, n) else
    if (whl 10 p n o).1 % p = 0 then sqL ps ((whl 10 p n o).1 / p) (whl 10 p n o).2 (i * p) else sqL ps (whl 10 p n o).1 (whl 10 p n o).2 i
/-- as the law goes on: over all numbers -/
def fr : Nat → Int → Int → Int → Int × Int
  | 0, _, n, s => (s, n)
  | k + 1, p, n, s => if p * p ≤ n then fr k (p + 1) (whl 10 p n s).1 (whl 10 p n s).2 else (s, n)
theorem sq_div {n q : Int} (h0 : 0 < n) (hq : 4 ≤ q) (h : n % q = 0) : 0 < n / q ∧ n / q * 4 ≤ n ∧ n / q < n := by
  have e := Int.mul_ediv_add_emod n q
  rw [h, Int.add_zero] at e
  have h1 : 0 < n / q := by
    rcases Int.lt_or_le 0 (n / q) with z | z
    · exact z
    · have := Int.mul_le_mul_of_nonneg_left z (show 0 ≤ q by omega)
      rw [Int.mul_zero] at this
      omega
  have h2 : n / q * 4 ≤ n / q * q := Int.mul_le_mul_of_nonneg_left hq (by omega)
  rw [Int.mul_comm q] at e
  exact ⟨h1, by omega, by omega⟩
theorem pp4 {p : Int} (h : 2 ≤ p) : 4 ≤ p * p := by
  have := Int.mul_le_mul h h (by omega) (by omega)
  omega
theorem whl_ok : ∀ (k : Nat) (p n o : Int), 2 ≤ p → 0 < n → 0 < (whl k p n o).1 ∧ (whl k p n o).1 ≤ n
  | 0, p, n, o, _, h => ⟨h, Int.le_refl _⟩
  | k + 1, p, n, o, hp, h => by
    unfold whl
    split
    · rename_i z
      obtain ⟨a, b, c⟩ := sq_div h (pp4 hp) z
      obtain ⟨d, e⟩ := whl_ok k p (n / (p * p)) (o * p) hp a
      exact ⟨d, by omega⟩
    · exact ⟨h, Int.le_refl _⟩
/-- the loop's measure: whl with more fuel is the same -/
theorem whl_fuel : ∀ (k j : Nat) (p n o : Int), 2 ≤ p → 0 < n → n < 4 ^ k → whl (k + j) p n o = whl k p n o
  | 0, j, p, n, o, _, h, h2 => by
    have : n < 1 := h2
    omega
  | k + 1, j, p, n, o, hp, h, h2 => by
    rw [Nat.add_right_comm]
    show (if n % (p * p) = 0 then whl (k + j) p (n / (p * p)) (o * p) else (n, o)) = (if n % (p * p) = 0 then whl k p (n / (p * p)) (o * p) else (n, o))
    split
    · rename_i z
      obtain ⟨a, b, c⟩ := sq_div h (pp4 hp) z
      exact whl_fuel k j p _ _ hp a (by
        have e : (4 : Int) ^ (k + 1) = 4 ^ k * 4 := Int.pow_succ ..
        omega)
    · rfl
def primes : List Int := [2, 3, 5, 7, 11, 13, 17, 19, 23, 29, 31, 37, 41, 43, 47, 53, 59, 61, 67, 71, 73, 79, 83, 89, 97, 101, 103, 107, 109, 113, 127, 131, 137, 139, 149, 151, 157, 163, 167, 173, 179, 181, 191, 193, 197, 199, 211, 223, 227, 229, 233, 239, 241, 251, 257, 263, 269, 271, 277, 281, 283, 293, 307, 311, 313, 317, 331, 337, 347, 349, 353, 359, 367, 373, 379, 383, 389, 397, 401, 409, 419, 421, 431, 433, 439, 443, 449, 457, 461, 463, 467, 479, 487, 491, 499, 503, 509, 521, 523, 541, 547, 557, 563, 569, 571, 577, 587, 593, 599, 601, 607, 613, 617, 619, 631, 641, 643, 647, 653, 659, 661, 673, 677, 683, 691, 701, 709, 719, 727, 733, 739, 743, 751, 757, 761, 769, 773, 787, 797, 809, 811, 821, 823, 827, 829, 839, 853, 857, 859, 863, 877, 881, 883, 887, 907, 911, 919, 929, 937, 941, 947, 953, 967, 971, 977, 983, 991, 997]
def sqOut (n : Int) : Int × Int × Int := if n = 0 then (0, 1, 1) else sqL primes n 1 1
def free (n : Int) : Int × Int := fr 1000 2 n 1
/-- the roots that the law takes -/
def chk (r : Int) : Bool := match sqOut r, free r with
  | (o, i, m), (s, f) => decide (m = 1) && (decide (0 ≤ o) && (decide (o ≤ 1000) && (decide (1 ≤ i) && (decide (i ≤ 1000000) && (decide (r = 0) || (decide (0 < o) && (decide (s = o) && decide (f = i))))))))
def some11 : List Int := [0, 1, 4, 12, 997, 997 * 997, 2 ^ 19, 510510, 720720, 1000000, 30 * 30 * 7]
theorem chk_11 : some11.all chk = true := by decide +kernel
theorem chk_900 : (List.range 900).all (fun k => chk (1 + (k : Int))) = true := by decide +kernel
def Ok (r : Int) : Prop := 0 ≤ r ∧ r ≤ 1000000 ∧ chk r = true
theorem ok_11 {r : Int} (h : r ∈ some11) : Ok r := by
  refine ⟨?_, ?_, List.all_eq_true.mp chk_11 r h⟩
  · revert r; decide
  · revert r; decide
theorem ok_900 {d : Int} (h0 : 0 ≤ d) (h1 : d < 900) : Ok (1 + d) := by
  refine ⟨by omega, by omega, ?_⟩
  have := List.all_eq_true.mp chk_900 d.toNat (List.mem_range.mpr (by omega))
  rw [Int.toNat_of_nonneg h0] at this
  exact this
theorem Ok.all {r : Int} (h : Ok r) : (sqOut r).2.2 = 1 ∧ 0 ≤ (sqOut r).1 ∧ (sqOut r).1 ≤ 1000 ∧ 1 ≤ (sqOut r).2.1 ∧ (sqOut r).2.1 ≤ 1000000 ∧ (r ≠ 0 → 0 < (sqOut r).1 ∧ free r = ((sqOut r).1, (sqOut r).2.1)) := by
  obtain ⟨_, _, h⟩ := h
  unfold chk at h
  generalize sqOut r = a at h ⊢
  generalize free r = b at h ⊢
  obtain ⟨o, i, m⟩ := a
  obtain ⟨s, f⟩ := b
  simp only [Bool.and_eq_true, Bool.or_eq_true, decide_eq_true_eq] at h
  obtain ⟨h1, h2, h3, h4, h5, h6⟩ := h
  refine ⟨h1, h2, h3, h4, h5, fun hr => ?_⟩
  rcases h6 with h6 | ⟨h6, h7, h8⟩
  · exact absurd h6 hr
  · exact ⟨h6, by rw [h7, h8]⟩
/-- what exact comes to: no part, or one -/
def ex (top bottom root : Int) : Option (Int × Int × Int) :=
  if top * (sqOut root).1 = 0 then none else some ((sqOut root).2.1, (low (top * (sqOut root).1) bottom).1, (low (top * (sqOut root).1) bottom).2)
/-- what is due, as the law says it -/
def due (up under r : Int) : Option (Int × Int × Int) :=
  if up = 0 ∨ r = 0 then none else some ((free r).2, (lowL (up * (free r).1) under).1, (lowL (up * (free r).1) under).2)
theorem ex_due {t b r : Int} (hb : b ≠ 0) (h : Ok r) : ex t b r = due t b r := by
  obtain ⟨h1, h2, h3, h4, h5, h6⟩ := h.all
  unfold ex due
  by_cases hr : r = 0
  · subst hr
    rw [if_pos (show t * (sqOut 0).1 = 0 from Int.mul_zero _), if_pos (Or.inr rfl)]
  · obtain ⟨h7, h8⟩ := h6 hr
    rw [h8, ← low_eq _ _ hb]
    by_cases ht : t = 0
    · subst ht
      rw [if_pos (Int.zero_mul _), if_pos (Or.inl rfl)]
    · rw [if_neg (show ¬ t * (sqOut r).1 = 0 from fun e => by
        rcases Int.mul_eq_zero.mp e with e | e <;> omega), if_neg (show ¬ (t = 0 ∨ r = 0) by omega)]
theorem ok_one : Ok 1 := ok_11 (by decide)
theorem sq_one : sqOut 1 = (1, 1, 1) := by decide +kernel
theorem ex_one (t : Int) : ex t 1 1 = if t = 0 then none else some (1, t, 1) := by
  unfold ex
  rw [sq_one]
  show (if t * 1 = 0 then none else some ((1 : Int), (low (t * 1) 1).1, (low (t * 1) 1).2)) = _
  rw [Int.mul_one, low_one]
theorem ex_succ (t : Int) : ex t 1 1 ≠ ex (t + 1) 1 1 := by
  rw [ex_one, ex_one]
  split <;> split
  · omega
  · simp
  · simp
  · simp only [ne_eq, Option.some.injEq, Prod.mk.injEq, not_and]
    omega
end TCM
/-! Sums of fractions times roots, as lists of (root, fraction). -/
namespace TCR
open TCM
/-! ### fractions -/
theorem low_rat (t b : Int) (h : b ≠ 0) : low t b = ((Rat.divInt t b).num, ((Rat.divInt t b).den : Int)) := by
  have gp := gcd_pos t b h
  have e1 : (Rat.divInt t b).num = b.sign * t / ((b.gcd t : Nat) : Int) := Rat.num_divInt t b
  have e2 : (Rat.divInt t b).den = b.natAbs / b.gcd t := by rw [Rat.den_divInt, if_neg h]
  rw [e1, e2, Int.gcd_comm b t]
  obtain ⟨k, hk⟩ : ((Int.gcd t b : Nat) : Int) ∣ t := Int.gcd_dvd_left ..
  obtain ⟨m, hm⟩ : ((Int.gcd t b : Nat) : Int) ∣ b := Int.gcd_dvd_right ..
  have g0 : ((Int.gcd t b : Nat) : Int) ≠ 0 := by omega
  have x1 : low t b = (if b < 0 then (-k, -m) else (k, m)) := by
    unfold low sgn
    by_cases hb : b < 0
    · rw [if_pos hb, if_pos hb]
      have a1 : t.fdiv (-((Int.gcd t b : Nat) : Int)) = -k := by
        have z : t = (-((Int.gcd t b : Nat) : Int)) * (-k) := by rw [Int.neg_mul_neg]; exact hk
        have z2 := Int.mul_fdiv_cancel_left (-k) (show (-((Int.gcd t b : Nat) : Int)) ≠ 0 by omega)
        rw [← z] at z2
        exact z2
      have a2 : b.fdiv (-((Int.gcd t b : Nat) : Int)) = -m := by
        have z : b = (-((Int.gcd t b : Nat) : Int)) * (-m) := by rw [Int.neg_mul_neg]; exact hm
        have z2 := Int.mul_fdiv_cancel_left (-m) (show (-((Int.gcd t b : Nat) : Int)) ≠ 0 by omega)
        rw [← z] at z2
        exact z2
      rw [a1, a2]
    · rw [if_neg hb, if_neg hb]
      have a1 : t.fdiv ((Int.gcd t b : Nat) : Int) = k := by
        have z2 := Int.mul_fdiv_cancel_left k g0
        rw [← hk] at z2
        exact z2
      have a2 : b.fdiv ((Int.gcd t b : Nat) : Int) = m := by
        have z2 := Int.mul_fdiv_cancel_left m g0
        rw [← hm] at z2
        exact z2
      rw [a1, a2]
  rw [x1]
  have y2 : ((b.natAbs / Int.gcd t b : Nat) : Int) = (m.natAbs : Int) := by
    have : b.natAbs = Int.gcd t b * m.natAbs := by
      have z := congrArg Int.natAbs hm
      rw [Int.natAbs_mul] at z
      simpa using z
    rw [this, Nat.mul_div_cancel_left _ gp]
  have y1 : b.sign * t / ((Int.gcd t b : Nat) : Int) = b.sign * k := by
    have : b.sign * t = ((Int.gcd t b : Nat) : Int) * (b.sign * k) := by
      rw [Int.mul_left_comm, ← hk]
    rw [this, Int.mul_ediv_cancel_left _ g0]
  rw [y1, y2]
  have gn : (0 : Int) < ((Int.gcd t b : Nat) : Int) := by omega
  by_cases hb : b < 0
  · rw [if_pos hb, Int.sign_eq_neg_one_of_neg hb]
    have : m < 0 := by
      rcases Int.lt_or_le m 0 with z | z
      · exact z
      · have := Int.mul_nonneg (Int.le_of_lt gn) z
        omega
    rw [Int.neg_mul, Int.one_mul]
    congr 1
    omega
  · rw [if_neg hb, Int.sign_eq_one_of_pos (by omega)]
    have : 0 ≤ m := by
      rcases Int.lt_or_le m 0 with z | z
      · have := Int.mul_nonneg (Int.le_of_lt gn) (show 0 ≤ -m by omega)
        rw [Int.mul_neg] at this
        omega
      · exact z
    rw [Int.one_mul]
    congr 1
    omega
theorem lowL_rat (t b : Int) (h : b ≠ 0) : lowL t b = ((Rat.divInt t b).num, ((Rat.divInt t b).den : Int)) := by
  rw [← low_eq t b h, low_rat t b h]
/-- the sum as sum_in_lowest makes it -/
theorem sum_low (a b : Rat) :
    let g := Nat.gcd a.den b.den
    let num := a.num * ((b.den / g : Nat) : Int) + b.num * ((a.den / g : Nat) : Int)
    let l := Nat.gcd num.natAbs g
    (a + b).num = num / (l : Int) ∧ (a + b).den = (a.den / g) * (b.den / l) ∧ 0 < g ∧ 0 < l ∧ g ∣ a.den ∧ g ∣ b.den ∧ (l : Int) ∣ num ∧ l ∣ b.den := by
  intro g num l
  have ga : g ∣ a.den := Nat.gcd_dvd_left ..
  have gb : g ∣ b.den := Nat.gcd_dvd_right ..
  have g0 : 0 < g := Nat.gcd_pos_of_pos_left _ a.den_pos
  have l0 : 0 < l := Nat.gcd_pos_of_pos_right _ g0
  have lb : l ∣ b.den := Nat.dvd_trans (Nat.gcd_dvd_right ..) gb
  have aux : Nat.gcd num.natAbs g = Nat.gcd num.natAbs ((a.den / g) * b.den) := Rat.add.aux a b rfl rfl rfl
  have dn : (a.den / g) * b.den ≠ 0 := by
    have h1 : 0 < a.den / g := Nat.div_pos (Nat.le_of_dvd a.den_pos ga) g0
    exact Nat.ne_of_gt (Nat.mul_pos h1 b.den_pos)
  have es : a + b = mkRat num ((a.den / g) * b.den) := by
    rw [Rat.add_def' a b]
    rw [Rat.mkRat_eq_iff (Nat.mul_ne_zero a.den_nz b.den_nz) dn]
    obtain ⟨u, hu⟩ := ga
    obtain ⟨v, hv⟩ := gb
    have u1 : a.den / g = u := by rw [hu]; exact Nat.mul_div_cancel_left _ g0
    have v1 : b.den / g = v := by rw [hv]; exact Nat.mul_div_cancel_left _ g0
    show _ = (a.num * ((b.den / g : Nat) : Int) + b.num * ((a.den / g : Nat) : Int)) * _
    rw [u1, v1, hu, hv]
    push_cast
    grind
  have en : mkRat num ((a.den / g) * b.den) = Rat.normalize num ((a.den / g) * b.den) dn := by
    rw [Rat.normalize_eq_mkRat]
  have en2 := Rat.normalize_eq (num := num) dn
  refine ⟨?_, ?_, g0, l0, ga, gb, ?_, lb⟩
  · rw [es, en, en2]
    show num / ((Nat.gcd num.natAbs ((a.den / g) * b.den) : Nat) : Int) = num / ((Nat.gcd num.natAbs g : Nat) : Int)
    rw [aux]
  · rw [es, en, en2]
    show (a.den / g) * b.den / (Nat.gcd num.natAbs ((a.den / g) * b.den)) = (a.den / g) * (b.den / l)
    rw [← aux, Nat.mul_div_assoc _ lb]
  · exact Int.ofNat_dvd_left.mpr (Nat.gcd_dvd_left ..)
/-! ### sizes -/
def Sz (B : Nat) (q : Rat) : Prop := q.num.natAbs < 2 ^ B ∧ q.den < 2 ^ B
theorem Sz.mono {B C : Nat} {q : Rat} (h : Sz B q) (hc : B ≤ C) : Sz C q := by
  have := Nat.pow_le_pow_right (show 0 < 2 by decide) hc
  exact ⟨Nat.lt_of_lt_of_le h.1 this, Nat.lt_of_lt_of_le h.2 this⟩
theorem Sz.neg {B : Nat} {q : Rat} (h : Sz B q) : Sz B (-q) := by
  refine ⟨?_, ?_⟩
  · rw [Rat.neg_num, Int.natAbs_neg]
    exact h.1
  · rw [Rat.neg_den]
    exact h.2
theorem Sz.zero {B : Nat} (h : 0 < B) : Sz B 0 := ⟨Nat.pow_pos (by decide), Nat.one_lt_two_pow (by omega)⟩
theorem Sz.add {A B : Nat} {p q : Rat} (h : Sz A p) (k : Sz B q) : Sz (A + B + 1) (p + q) := by
  obtain ⟨e1, e2, g0, l0, ga, gb, ln, lb⟩ := sum_low p q
  have b1 : q.den / Nat.gcd p.den q.den ≤ q.den := Nat.div_le_self ..
  have a1 : p.den / Nat.gcd p.den q.den ≤ p.den := Nat.div_le_self ..
  have P1 : p.num.natAbs * q.den < 2 ^ A * 2 ^ B := Nat.mul_lt_mul'' h.1 k.2
  have P2 : q.num.natAbs * p.den < 2 ^ A * 2 ^ B := by
    rw [Nat.mul_comm (2 ^ A)]
    exact Nat.mul_lt_mul'' k.1 h.2
  have P3 : p.den * q.den < 2 ^ A * 2 ^ B := Nat.mul_lt_mul'' h.2 k.2
  have ep : 2 ^ (A + B + 1) = 2 ^ A * 2 ^ B * 2 := by rw [Nat.pow_succ, Nat.pow_add]
  refine ⟨?_, ?_⟩
  · rw [e1]
    have d1 := Int.natAbs_ediv_le_natAbs (p.num * ((q.den / Nat.gcd p.den q.den : Nat) : Int) + q.num * ((p.den / Nat.gcd p.den q.den : Nat) : Int)) ((Nat.gcd (p.num * ((q.den / Nat.gcd p.den q.den : Nat) : Int) + q.num * ((p.den / Nat.gcd p.den q.den : Nat) : Int)).natAbs (Nat.gcd p.den q.den) : Nat) : Int)
    have d2 := Int.natAbs_add_le (p.num * ((q.den / Nat.gcd p.den q.den : Nat) : Int)) (q.num * ((p.den / Nat.gcd p.den q.den : Nat) : Int))
    rw [Int.natAbs_mul, Int.natAbs_mul] at d2
    have m1 : p.num.natAbs * ((q.den / Nat.gcd p.den q.den : Nat) : Int).natAbs ≤ p.num.natAbs * q.den := Nat.mul_le_mul (Nat.le_refl _) (by rw [Int.natAbs_natCast]; exact b1)
    have m2 : q.num.natAbs * ((p.den / Nat.gcd p.den q.den : Nat) : Int).natAbs ≤ q.num.natAbs * p.den := Nat.mul_le_mul (Nat.le_refl _) (by rw [Int.natAbs_natCast]; exact a1)
    omega
  · rw [e2]
    have m1 := Nat.mul_le_mul a1 (Nat.div_le_self q.den (Nat.gcd (p.num * ((q.den / Nat.gcd p.den q.den : Nat) : Int) + q.num * ((p.den / Nat.gcd p.den q.den : Nat) : Int)).natAbs (Nat.gcd p.den q.den)))
    omega
theorem Sz.divInt {B : Nat} {t b : Int} (h : b ≠ 0) (ht : t.natAbs < 2 ^ B) (hb : b.natAbs < 2 ^ B) : Sz B (Rat.divInt t b) := by
  obtain ⟨l1, l2⟩ := low_abs t b h
  rw [low_rat t b h] at l1 l2
  exact ⟨Nat.lt_of_le_of_lt l1 ht, Nat.lt_of_le_of_lt (by simpa using l2) hb⟩
/-! ### lists of roots and fractions -/
def val : List (Int × Rat) → Int → Rat
  | [], _ => 0
  | (a, q) :: L, r => if a = r then q else val L r
structure Canon (L : List (Int × Rat)) : Prop where
  srt : L.Pairwise (fun x y => x.1 < y.1)
  nz : ∀ x ∈ L, x.2 ≠ 0
theorem val_not : ∀ {L : List (Int × Rat)} {r : Int}, (∀ x ∈ L, x.1 ≠ r) → val L r = 0
  | [], _, _ => rfl
  | (a, q) :: L, r, h => by
    show (if a = r then q else val L r) = 0
    rw [if_neg (h _ (List.mem_cons_self ..)), val_not fun x hx => h x (List.mem_cons_of_mem _ hx)]
theorem Canon.tail {x : Int × Rat} {L : List (Int × Rat)} (c : Canon (x :: L)) : Canon L := ⟨(List.pairwise_cons.mp c.srt).2, fun y hy => c.nz y (List.mem_cons_of_mem _ hy)⟩
theorem Canon.mem {L : List (Int × Rat)} (c : Canon L) {x : Int × Rat} (h : x ∈ L) : val L x.1 = x.2 := by
  induction L with
  | nil => cases h
  | cons y L ih =>
    obtain ⟨a, q⟩ := y
    rcases List.mem_cons.mp h with e | e
    · subst e
      exact if_pos rfl
    · have lt := (List.pairwise_cons.mp c.srt).1 x e
      show (if a = x.1 then q else val L x.1) = x.2
      rw [if_neg (by simp at lt; omega), ih c.tail e]
theorem Canon.val_ne {L : List (Int × Rat)} (c : Canon L) {r : Int} : val L r ≠ 0 ↔ ∃ q, (r, q) ∈ L := by
  refine ⟨fun h => ?_, fun ⟨q, h⟩ => ?_⟩
  · rcases Classical.em (∃ q, (r, q) ∈ L) with z | z
    · exact z
    · exact absurd (val_not fun x hx e => z ⟨x.2, by rw [← e]; exact hx⟩) h
  · rw [c.mem h]
    exact c.nz _ h
theorem canon_eq : ∀ {L M : List (Int × Rat)}, Canon L → Canon M → (∀ r, val L r = val M r) → L = M
  | [], [], _, _, _ => rfl
  | [], y :: M, _, c, h => by
    have z := h y.1
    rw [c.mem (List.mem_cons_self ..)] at z
    exact absurd z.symm (c.nz y (List.mem_cons_self ..))
  | x :: L, [], c, _, h => by
    have z := h x.1
    rw [c.mem (List.mem_cons_self ..)] at z
    exact absurd z (c.nz x (List.mem_cons_self ..))
  | x :: L, y :: M, c, d, h => by
    have key : x.1 = y.1 := by
      have lx : ∀ z ∈ L, x.1 < z.1 := (List.pairwise_cons.mp c.srt).1
      have ly : ∀ z ∈ M, y.1 < z.1 := (List.pairwise_cons.mp d.srt).1
      rcases Int.lt_trichotomy x.1 y.1 with z | z | z
      · have e := h x.1
        rw [c.mem (List.mem_cons_self ..), val_not (L := y :: M) (fun w hw => by
          rcases List.mem_cons.mp hw with e | e
          · rw [e]
            omega
          · have := ly w e
            omega)] at e
        exact absurd e (c.nz x (List.mem_cons_self ..))
      · exact z
      · have e := h y.1
        rw [d.mem (List.mem_cons_self ..), val_not (L := x :: L) (fun w hw => by
          rcases List.mem_cons.mp hw with e | e
          · rw [e]
            omega
          · have := lx w e
            omega)] at e
        exact absurd e.symm (d.nz y (List.mem_cons_self ..))
    have v : x.2 = y.2 := by
      have e := h x.1
      rw [c.mem (List.mem_cons_self ..), key, d.mem (List.mem_cons_self ..)] at e
      exact e
    have exy : x = y := Prod.ext key v
    subst exy
    rw [canon_eq c.tail d.tail fun r => ?_]
    by_cases e : x.1 = r
    · have lx : ∀ z ∈ L, x.1 < z.1 := (List.pairwise_cons.mp c.srt).1
      have ly : ∀ z ∈ M, x.1 < z.1 := (List.pairwise_cons.mp d.srt).1
      rw [val_not (fun w hw => by have := lx w hw; omega), val_not (fun w hw => by have := ly w hw; omega)]
    · have z := h r
      obtain ⟨a, q⟩ := x
      have z2 : (if a = r then q else val L r) = (if a = r then q else val M r) := z
      rw [if_neg e, if_neg e] at z2
      exact z2
/-! ### from a sorted list of keys -/
def kept (g : Int → Rat) (ns : List Int) : List (Int × Rat) := (ns.filter fun r => decide (g r ≠ 0)).map fun r => (r, g r)
theorem val_kept (g : Int → Rat) : ∀ {ns : List Int} (r : Int), (r ∉ ns → g r = 0) → val (kept g ns) r = g r
  | [], r, h => (h (by simp)).symm
  | n :: ns, r, h => by
    unfold kept
    by_cases hn : g n ≠ 0
    · rw [List.filter_cons, if_pos (by simpa using hn), List.map_cons]
      show (if n = r then g n else val (kept g ns) r) = g r
      by_cases e : n = r
      · rw [if_pos e, e]
      · rw [if_neg e, val_kept g r fun z => h (by
          rw [List.mem_cons]
          rintro (w | w)
          · exact e w.symm
          · exact z w)]
    · rw [List.filter_cons, if_neg (by simpa using hn)]
      show val (kept g ns) r = g r
      by_cases e : n = r
      · subst e
        have e0 : g n = 0 := Classical.not_not.mp hn
        by_cases m : n ∈ ns
        · exact val_kept g n fun z => absurd m z
        · rw [e0]
          refine val_not fun x hx => ?_
          unfold kept at hx
          obtain ⟨s, hs, rfl⟩ := List.mem_map.mp hx
          intro z
          have : s = n := z
          subst this
          exact m (List.mem_filter.mp hs).1
      · exact val_kept g r fun z => h (by
          rw [List.mem_cons]
          rintro (w | w)
          · exact e w.symm
          · exact z w)
theorem canon_kept (g : Int → Rat) {ns : List Int} (nd : ns.Nodup) (srt : ns.Pairwise (· ≤ ·)) : Canon (kept g ns) := by
  refine ⟨?_, fun x hx => ?_⟩
  · unfold kept
    rw [List.pairwise_map]
    have lt : ns.Pairwise (fun a b => a < b) := (List.pairwise_and_iff.mpr ⟨srt, nd⟩).imp fun {a b} h => by
      have h1 : a ≤ b := h.1
      have h2 : a ≠ b := h.2
      omega
    exact lt.filter _
  · unfold kept at hx
    obtain ⟨r, hr, rfl⟩ := List.mem_map.mp hx
    simpa using (List.mem_filter.mp hr).2
theorem kept_len (g : Int → Rat) (ns : List Int) : (kept g ns).length ≤ ns.length := by
  unfold kept
  rw [List.length_map]
  exact List.length_filter_le ..
theorem kept_snoc (g : Int → Rat) (ns : List Int) (r : Int) : kept g (ns ++ [r]) = kept g ns ++ (if g r ≠ 0 then [(r, g r)] else []) := by
  unfold kept
  rw [List.filter_append, List.map_append]
  congr 1
  by_cases h : g r ≠ 0
  · rw [if_pos h, List.filter_cons, if_pos (by simpa using h)]
    rfl
  · rw [if_neg h, List.filter_cons, if_neg (by simpa using h)]
    rfl
theorem val_take {M : List (Int × Rat)} (c : Canon M) : ∀ {i : Nat} {x : Int × Rat} (s : Int), M[i]? = some x → val (M.take i) x.1 = 0 ∧ val (M.take (i + 1)) s = if s = x.1 then x.2 else val (M.take i) s := by
  induction M with
  | nil =>
    intro i x s h
    simp at h
  | cons y M ih =>
    intro i x s h
    obtain ⟨a, q⟩ := y
    cases i with
    | zero =>
      have e : (a, q) = x := Option.some.inj h
      subst e
      refine ⟨rfl, ?_⟩
      show (if a = s then q else 0) = if s = a then q else 0
      by_cases e : a = s
      · rw [if_pos e, if_pos e.symm]
      · rw [if_neg e, if_neg fun z => e z.symm]
    | succ i =>
      have h' : M[i]? = some x := h
      obtain ⟨h1, h2⟩ := ih c.tail s h'
      have lt : a < x.1 := (List.pairwise_cons.mp c.srt).1 x (List.mem_of_getElem? h')
      refine ⟨?_, ?_⟩
      · show (if a = x.1 then q else val (M.take i) x.1) = 0
        rw [if_neg (by omega), h1]
      · show (if a = s then q else val (M.take (i + 1)) s) = if s = x.1 then x.2 else (if a = s then q else val (M.take i) s)
        rw [h2]
        by_cases e : a = s
        · rw [if_pos e, if_neg (by omega), if_pos e]
        · rw [if_neg e, if_neg e]
theorem Sz.val {B : Nat} {L : List (Int × Rat)} (h0 : 0 < B) (h : ∀ x ∈ L, Sz B x.2) (r : Int) : Sz B (val L r) := by
  induction L with
  | nil => exact Sz.zero h0
  | cons y L ih =>
    obtain ⟨a, q⟩ := y
    show Sz B (if a = r then q else TCR.val L r)
    split
    · exact h _ (List.mem_cons_self ..)
    · exact ih fun x hx => h x (List.mem_cons_of_mem _ hx)
def negL (L : List (Int × Rat)) : List (Int × Rat) := L.map fun x => (x.1, -x.2)
theorem val_neg : ∀ (L : List (Int × Rat)) (r : Int), val (negL L) r = -val L r
  | [], r => by
    show (0 : Rat) = -0
    rfl
  | (a, q) :: L, r => by
    show (if a = r then -q else val (negL L) r) = -(if a = r then q else val L r)
    split
    · rfl
    · exact val_neg L r
theorem canon_neg {L : List (Int × Rat)} (c : Canon L) : Canon (negL L) := by
  refine ⟨?_, fun x hx => ?_⟩
  · unfold negL
    rw [List.pairwise_map]
    exact c.srt
  · obtain ⟨y, hy, rfl⟩ := List.mem_map.mp hx
    have z := c.nz y hy
    show -y.2 ≠ 0
    grind
theorem canon_one {r : Int} {q : Rat} (h : q ≠ 0) : Canon [(r, q)] := ⟨List.pairwise_singleton .., fun x hx => by rw [List.mem_singleton.mp hx]; exact h⟩
theorem canon_nil : Canon [] := ⟨List.Pairwise.nil, fun x hx => by cases hx⟩
end TCR
namespace TC
open PySem PySem.Spec PyProof.Rows L2 TCA
theorem iteNT {c A B : Prop} [Decidable c] (hc : ¬ c) (h : A) : if (!decide c) = true then A else B := by
  rw [decide_eq_false hc]
  exact iteT h
theorem iteD1 {c A B : Prop} [Decidable c] (hc : c) (h : A) : if decide c = true then A else B := by
  rw [decide_eq_true hc]
  exact iteT h
theorem iteD0 {c A B : Prop} [Decidable c] (hc : ¬ c) (h : B) : if decide c = true then A else B := by
  rw [decide_eq_false hc]
  exact iteF h
theorem ine {a b : Int} (h : a ≠ b) : ¬ (V.int a = V.int b) := fun e => h (V.int.inj e)
theorem same_upd {H : Hp} {p : Addr} {o : HO} (h : H p = none) : Same H (upd H p o) := fun b x e => by
  rw [upd_ne (ne_of_none e h)]
  exact e
section
variable {P : Program} {w : World} {K : PySem.W.Frag} {mg : Str → Option Value} {base : Heap} {f : Addr} {fd : FuncData}
/-! ### is_whole -/
def spWhole : Sp := fun vs H Q _ => ∃ n : Int, vs = [.int n] ∧ Q (.bl true) H
theorem scWhole : FnScope ["thing"] ["thing"] (defScope sWhole) := ⟨rfl, rfl, rfl, by decide +kernel, rfl, by decide +kernel, by decide +kernel⟩
theorem ok_whole (F : FnP K "is_whole" sWhole f fd) (gI : mg "isinstance" = none) (gi : mg "int" = none) (gb : mg "bool" = none) : FnOk P w K mg base CX0 1 f fd ["thing"] spWhole := by
  refine F.ok scWhole (fun vs H Q E h => ?_) (fun cdv A outer s H vs Q E hr h => ?_)
  · obtain ⟨n, rfl, _⟩ := h
    rfl
  · obtain ⟨n, rfl, q⟩ := h
    refine ⟨_, PSs.nox (pss_one (ps_ret (pe_and (pe_callB call_isi (by rfl) gI (by decide +kernel) (pa_cons (pv 0) (pa_cons (pe_bltn (v := .ty "int") (by rfl) gi (by decide +kernel) rfl) pa_nil)))
      (pe_one (pe_not (pe_callB call_isi (by rfl) gI (by decide +kernel) (pa_cons (pv 0) (pa_cons (pe_bltn (v := .ty "bool") (by rfl) gb (by decide +kernel) rfl) pa_nil)))))))), ?_⟩
    refine ⟨_, rfl, _, _, _, _, true, rfl, .ty "int", .base (.int n), kit_ty (by decide +kernel), true, rfl, iteT ?_⟩
    refine ⟨_, rfl, _, _, _, _, false, rfl, .ty "bool", .base (.int n), kit_ty (by decide +kernel), false, rfl, q⟩
/-! ### shared -/
def spShared : Sp := fun vs H Q _ => ∃ a b : Int, vs = [.int a, .int b] ∧ Q (.int ((Int.gcd a b : Nat) : Int)) H
theorem scShared : FnScope ["one", "other"] ["one", "other"] (defScope sShared) := ⟨rfl, rfl, rfl, by decide +kernel, rfl, by decide +kernel, by decide +kernel⟩
theorem ok_shared (F : FnP K "shared" sShared f fd) (gA : mg "abs" = none) : FnOk P w K mg base CX0 1 f fd ["one", "other"] spShared := by
  refine F.ok scShared (fun vs H Q E h => ?_) (fun cdv A outer s H vs Q E hr h => ?_)
  · obtain ⟨a, b, rfl, _⟩ := h
    rfl
  · obtain ⟨a, b, rfl, q⟩ := h
    refine ⟨_, PSs.nox (pss_cons (ps_while PassesOwn.never (pt_cmpR op_ne (pv 1) pe_int (nomark _))
        (pss_one (ps_par (i := 0) (j := 1) rfl scShared.nd rfl rfl (by decide) rfl rfl (pa_cons (pv 1) (pa_cons (pe_op op_modN (pv 0) (pv 1)) pa_nil)) (by rfl))))
      (pss_one (ps_ret (pe_callB call_abs (by rfl) gA (by decide +kernel) (pa_cons (pv 0) pa_nil))))), ?_⟩
    refine ⟨fun m σ H' => ∃ x y : Int, σ = [some (.int x), some (.int y)] ∧ H' = H ∧ Int.gcd x y = Int.gcd a b ∧ y.natAbs = m, ⟨_, a, b, rfl, rfl, rfl, rfl⟩, fun m σ H' hW => ?_⟩
    obtain ⟨x, y, rfl, rfl, eg, em⟩ := hW
    refine ⟨_, rfl, rfl, _, rfl, ?_⟩
    by_cases hy : y = 0
    · subst hy
      refine iteNS rfl ?_
      refine ⟨_, rfl, x, rfl, ?_⟩
      rw [TCM.abs_eq, ← show Int.gcd x 0 = x.natAbs from Int.gcd_zero_right x, eg]
      exact q
    · refine iteNT (ine hy) ?_
      refine ⟨fun σ' H'' => ∃ x' y' : Int, σ' = [some (.int x'), some (.int y')] ∧ H'' = H' ∧ Int.gcd x' y' = Int.gcd a b ∧ y'.natAbs < m, fun σ' H'' hN => ?_, ?_⟩
      · obtain ⟨x', y', e1, e2, e3, e4⟩ := hN
        exact ⟨_, e4, x', y', e1, e2, e3, rfl⟩
      · refine ⟨_, rfl, _, rfl, _, rfl, x, y, rfl, rfl, hy, _, _, rfl, y, x.fmod y, rfl, rfl, ?_, ?_⟩
        · rw [TCM.gcd_fmod, eg]
        · rw [← em]
          exact TCM.fmod_lt x y hy
/-! ### in_lowest -/
def spLowest : Sp := fun vs H Q _ => ∃ (t b : Int) (A : Nat), vs = [.int t, .int b] ∧ b ≠ 0 ∧ b.natAbs < 2 ^ A ∧ 0 < A ∧ A ≤ 8000 ∧ ∀ p, H p = none → Q (.ref p) (upd H p (.tup [.int (TCM.low t b).1, .int (TCM.low t b).2]))
theorem scLowest : FnScope ["top", "bottom", "common"] ["top", "bottom"] (defScope sLowest) := ⟨rfl, rfl, rfl, by decide +kernel, rfl, by decide +kernel, by decide +kernel⟩
theorem log_lt {d : Int} {n : Nat} (h : n ≤ 9000) (hn : 0 < n) (hd : d.natAbs < 2 ^ n) : d.natAbs.log2 < 9000 := Nat.lt_of_lt_of_le (PySem.Flt.log2_lt_of hn hd) h
theorem ok_lowest {fS : Addr} {fdS : FuncData} (F : FnP K "in_lowest" sLowest f fd) (GS : FnOk P w K mg base CX0 1 fS fdS ["one", "other"] spShared) (bS : L2.Binds K fdS ["one", "other"] []) (kS : PySem.W.keepIn K (.ref fS) = true) (gS : mg "shared" = some (.ref fS)) :
    FnOk P w K mg base CX0 2 f fd ["top", "bottom"] spLowest := by
  refine F.ok scLowest (fun vs H Q E h => ?_) (fun cdv A outer s H vs Q E hr h => ?_)
  · obtain ⟨a, b, _, rfl, _⟩ := h
    rfl
  · obtain ⟨t, b, Ab, rfl, hb, hz, hA0, hA8, q⟩ := h
    refine ⟨_, PSs.nox (pss_cons (ps_set (i := 2) scLowest.nd rfl (.inl rfl) (pe_call GS hr (by rfl) gS kS bS .nil pass0 (pa_cons (pv 0) (pa_cons (pv 1) pa_nil))))
      (pss_cons (ps_if (pt_cmpR op_lt (pv 1) pe_int (nomark _)) (pss_one (ps_set (i := 2) scLowest.nd rfl (.inl rfl) (pe_un un_neg (pv 2)))) pss_nil)
      (pss_one (ps_ret (pe_tup (pa_cons (pe_op op_fdivNW (pv 0) (pv 2)) (pa_cons (pe_op op_fdivNW (pv 1) (pv 2)) pa_nil))))))), ?_⟩
    refine ⟨_, rfl, _, rfl, t, b, rfl, ?_⟩
    have fin : ∀ σ : L2.St, σ = [some (.int t), some (.int b), some (.int (TCM.sgn t b))] → tRet (tTup (tCons (tOp (rI CDivNW fun i j => .int (i.fdiv j)) (tVar 0) (tVar 2)) (tCons (tOp (rI CDivNW fun i j => .int (i.fdiv j)) (tVar 1) (tVar 2)) tNil))) { nx := fun _ H' => Q .non H', rt := Q } σ H := by
      rintro σ rfl
      have hs : CDivNW t (TCM.sgn t b) := ⟨TCM.sgn_ne t b hb, log_lt (n := Ab) (by omega) hA0 (Nat.lt_of_le_of_lt (by rw [TCM.sgn_abs]; exact TCM.gcd_le t b hb) hz)⟩
      exact ⟨_, rfl, _, rfl, t, _, rfl, rfl, hs, _, rfl, _, rfl, b, _, rfl, rfl, hs, by show 2 ≤ sizeLine; decide, fun p hp => q p hp⟩
    refine ⟨_, rfl, b, 0, rfl, rfl, _, rfl, ?_⟩
    by_cases hb0 : b < 0
    · refine iteD1 hb0 ?_
      refine ⟨_, rfl, _, rfl, ?_⟩
      refine fin _ ?_
      show [some (V.int t), some (V.int b), some (V.int (-((Int.gcd t b : Nat) : Int)))] = _
      rw [show TCM.sgn t b = -((Int.gcd t b : Nat) : Int) from if_pos hb0]
    · refine iteD0 hb0 ?_
      refine fin _ ?_
      show [some (V.int t), some (V.int b), some (V.int ((Int.gcd t b : Nat) : Int))] = _
      rw [show TCM.sgn t b = ((Int.gcd t b : Nat) : Int) from if_neg hb0]
end
theorem primes_ok : ∀ p ∈ TCM.primes, 2 ≤ p ∧ p ≤ 997 := by decide
theorem pp_le {p : Int} {m : Int} (h : 2 ≤ p) (h2 : p ≤ m) : 4 ≤ p * p ∧ p * p ≤ m * m := ⟨TCM.pp4 h, Int.mul_le_mul h2 h2 (by omega) (by omega)⟩
/-- the inner loop's word: k more turns -/
def WInn (p n0 o0 n o : Int) (k : Nat) : Prop := 0 < n ∧ n ≤ 1000000 ∧ n < 4 ^ k ∧ TCM.whl k p n o = TCM.whl 10 p n0 o0
theorem WInn.start {p n o : Int} (h : 0 < n) (h2 : n ≤ 1000000) : WInn p n o n o 10 := ⟨h, h2, Int.lt_of_le_of_lt h2 (by decide), rfl⟩
theorem WInn.turn {p n0 o0 n o : Int} {k : Nat} (w : WInn p n0 o0 n o k) (hp : 2 ≤ p) (h : n % (p * p) = 0) : ∃ j, WInn p n0 o0 (n / (p * p)) (o * p) j ∧ (n / (p * p)).toNat < n.toNat := by
  obtain ⟨h0, h1, h2, h3⟩ := w
  obtain ⟨a, b, c⟩ := TCM.sq_div h0 (TCM.pp4 hp) h
  cases k with
  | zero =>
    have : n < 1 := h2
    omega
  | succ k =>
    refine ⟨k, ⟨a, by omega, ?_, ?_⟩, by omega⟩
    · have e : (4 : Int) ^ (k + 1) = 4 ^ k * 4 := Int.pow_succ ..
      omega
    · rw [← h3]
      show _ = (if n % (p * p) = 0 then TCM.whl k p (n / (p * p)) (o * p) else (n, o))
      rw [if_pos h]
theorem WInn.stop {p n0 o0 n o : Int} {k : Nat} (w : WInn p n0 o0 n o k) (h : ¬ n % (p * p) = 0) : TCM.whl 10 p n0 o0 = (n, o) := by
  obtain ⟨h0, h1, h2, h3⟩ := w
  rw [← h3]
  cases k with
  | zero => rfl
  | succ k =>
    show (if n % (p * p) = 0 then TCM.whl k p (n / (p * p)) (o * p) else (n, o)) = _
    rw [if_neg h]
theorem cmul_r {i j : Int} (h1 : -1000000 ≤ j) (h2 : j ≤ 1000000) : CMul i j := .inr ⟨by omega, by omega⟩
section
variable {P : Program} {w : World} {K : PySem.W.Frag} {mg : Str → Option Value} {base : Heap} {f : Addr} {fd : FuncData}
/-! ### squares_out -/
def spSquares : Sp := fun vs H Q _ => ∃ n : Int, vs = [.int n] ∧ 0 ≤ n ∧ n ≤ 1000000 ∧ ∀ p H', Same H H' → H p = none → H' p = some (.tup [.int (TCM.sqOut n).1, .int (TCM.sqOut n).2.1, .int (TCM.sqOut n).2.2]) → Q (.ref p) H'
theorem scSquares : FnScope ["number", "outside", "inside", "prime"] ["number"] (defScope sSquares) := ⟨rfl, rfl, rfl, by decide +kernel, rfl, by decide +kernel, by decide +kernel⟩
theorem ok_squares {aP : Addr} (F : FnP K "squares_out" sSquares f fd) (gP : mg "PRIMES" = some (.ref aP)) (hT : ∀ H, SqT K H aP (TCM.primes.map V.int)) : FnOk P w K mg base CX0 1 f fd ["number"] spSquares := by
  refine F.ok scSquares (fun vs H Q E h => ?_) (fun cdv A outer s H vs Q E hr h => ?_)
  · obtain ⟨a, rfl, _⟩ := h
    rfl
  · obtain ⟨n, rfl, h0, h1, q⟩ := h
    refine ⟨_, PSs.nox (pss_cons (ps_if (pt_cmpR op_eq (pv 0) pe_int (nomark _)) (pss_one (ps_ret (pe_tup (pa_cons pe_int (pa_cons pe_int (pa_cons pe_int pa_nil)))))) pss_nil)
      (pss_cons (ps_asg (pe_tup (pa_cons pe_int (pa_cons pe_int pa_nil))) (pg_tup rfl (pgs_cons (pg_name (i := 1) scSquares.nd rfl (.inl rfl)) (pgs_cons (pg_name (i := 2) scSquares.nd rfl (.inl rfl)) pgs_nil))))
      (pss_cons (ps_for PassesOwn.never rfl (pi_tup (pe_glob (v := .ref aP) (by rfl) gP rfl)) (pg_name (i := 3) scSquares.nd rfl (.inl rfl))
        (pss_cons (ps_if (pt_cmpR op_eq (pv 0) pe_int (nomark _)) (pss_one ps_break) pss_nil)
        (pss_cons (ps_while PassesOwn.never (pt_cmpR op_eq (pe_op op_mod (pv 0) (pe_op op_mul (pv 3) (pv 3))) pe_int (nomark _))
          (pss_cons (ps_aug (i := 0) scSquares.nd rfl (.inl rfl) (pe_op op_mul (pv 3) (pv 3)) iop_fdiv) (pss_one (ps_aug (i := 1) scSquares.nd rfl (.inl rfl) (pv 3) iop_mul))))
        (pss_one (ps_if (pt_cmpR op_eq (pe_op op_mod (pv 0) (pv 3)) pe_int (nomark _))
          (pss_cons (ps_aug (i := 0) scSquares.nd rfl (.inl rfl) (pv 3) iop_fdiv) (pss_one (ps_aug (i := 2) scSquares.nd rfl (.inl rfl) (pv 3) iop_mul))) pss_nil)))))
      (pss_one (ps_ret (pe_tup (pa_cons (pv 1) (pa_cons (pv 2) (pa_cons (pv 0) pa_nil))))))))), ?_⟩
    refine ⟨_, rfl, rfl, _, rfl, ?_⟩
    by_cases hn : n = 0
    · subst hn
      refine iteD1 rfl ?_
      exact ⟨by show 3 ≤ sizeLine; decide, fun p hp => q p _ (same_upd hp) hp upd_same⟩
    · refine iteD0 (ine hn) ?_
      have eq0 : TCM.sqOut n = TCM.sqL TCM.primes n 1 1 := if_neg hn
      refine ⟨by show 2 ≤ sizeLine; decide, fun c hc => ?_⟩
      refine ⟨c, _, rfl, SqT.of upd_same, rfl, _, _, rfl, _, _, rfl, rfl, ?_⟩
      have sm1 : Same H (upd H c (.tup [.int 1, .int 1])) := same_upd hc
      replace q : ∀ p, (upd H c (.tup [.int 1, .int 1])) p = none → Q (.ref p) (upd (upd H c (.tup [.int 1, .int 1])) p (.tup [.int (TCM.sqOut n).1, .int (TCM.sqOut n).2.1, .int (TCM.sqOut n).2.2])) := fun p hp => q p _ (sm1.trans (same_upd hp)) (sm1.free hp) upd_same
      generalize upd H c (.tup [.int 1, .int 1]) = H at q ⊢
      refine ⟨aP, rfl, ⟨_, hT H⟩, for_tup (xs := TCM.primes.map V.int) (fun j σ H' => ∃ (n' o i : Int) (pr : Option V), σ = [some (.int n'), some (.int o), some (.int i), pr] ∧ H' = H ∧ 0 < n' ∧ n' ≤ 1000000 ∧ TCM.sqL (TCM.primes.drop j) n' o i = TCM.sqOut n)
        ⟨n, 1, 1, none, rfl, rfl, by omega, h1, eq0.symm⟩ (fun j σ H' _ hP => ?_) (fun j x σ H' hx hP => ?_) (fun σ H' hP => ?_)⟩
      · obtain ⟨_, _, _, _, _, rfl, _⟩ := hP
        exact hT _
      · obtain ⟨n', o, i, pr, rfl, rfl, g0, g1, ge⟩ := hP
        rw [List.getElem?_map] at hx
        obtain ⟨p, hp, rfl⟩ : ∃ p, TCM.primes[j]? = some p ∧ V.int p = x := by
          cases e : TCM.primes[j]? with
          | none =>
            rw [e] at hx
            cases hx
          | some p =>
            rw [e] at hx
            exact ⟨p, rfl, Option.some.inj hx⟩
        obtain ⟨p2, p9⟩ := primes_ok p (List.mem_of_getElem? hp)
        have hdrop : TCM.primes.drop j = p :: TCM.primes.drop (j + 1) := by
          obtain ⟨hl, e⟩ := List.getElem?_eq_some_iff.mp hp
          rw [List.drop_eq_getElem_cons hl, e]
        rw [hdrop] at ge
        obtain ⟨pp1, pp2⟩ := pp_le p2 p9
        have cd : CDiv n' (p * p) := ⟨by omega, by omega⟩
        refine ⟨_, rfl, rfl, _, rfl, ?_⟩
        by_cases hn1 : n' = 1
        · subst hn1
          refine iteD1 rfl ?_
          have e2 : (o, i, (1 : Int)) = TCM.sqOut n := by
            rw [← ge]
            show _ = (if (1 : Int) = 1 then (o, i, (1 : Int)) else _)
            rw [if_pos rfl]
          rw [← e2] at q
          exact ⟨_, rfl, _, rfl, _, rfl, by show 3 ≤ sizeLine; decide, fun p hp => q p hp⟩
        · refine iteD0 (ine hn1) ?_
          refine ⟨fun m σ H'' => ∃ (n2 o2 : Int) (k : Nat), σ = [some (.int n2), some (.int o2), some (.int i), some (.int p)] ∧ H'' = H' ∧ WInn p n' o n2 o2 k ∧ n2.toNat = m,
            ⟨_, n', o, 10, rfl, rfl, WInn.start g0 g1, rfl⟩, fun m σ H'' hW => ?_⟩
          obtain ⟨n2, o2, k, rfl, rfl, hw, hm⟩ := hW
          refine ⟨_, rfl, _, rfl, _, rfl, p, p, rfl, rfl, cmul_r (by omega) (by omega), n2, p * p, rfl, rfl, by show 0 < p * p; omega, rfl, _, rfl, ?_⟩
          by_cases hz : n2 % (p * p) = 0
          · refine iteD1 (congrArg V.int hz) ?_
            obtain ⟨k2, hw2, hlt⟩ := hw.turn p2 hz
            refine ⟨fun σ' H3 => σ' = [some (.int (n2 / (p * p))), some (.int (o2 * p)), some (.int i), some (.int p)] ∧ H3 = H'', fun σ' H3 hN => ?_, ?_⟩
            · obtain ⟨rfl, rfl⟩ := hN
              exact ⟨_, hm ▸ hlt, _, _, k2, rfl, rfl, hw2, rfl⟩
            · exact ⟨_, rfl, _, rfl, _, rfl, p, p, rfl, rfl, cmul_r (by omega) (by omega), n2, p * p, rfl, rfl, ⟨by omega, by omega⟩, _, rfl, _, rfl, o2, p, rfl, rfl, cmul_r (by omega) (by omega), rfl, rfl⟩
          · refine iteD0 (ine hz) ?_
            have ew := hw.stop hz
            obtain ⟨w0, w1, _, _⟩ := hw
            have ge2 : (if n2 % p = 0 then TCM.sqL (TCM.primes.drop (j + 1)) (n2 / p) o2 (i * p) else TCM.sqL (TCM.primes.drop (j + 1)) n2 o2 i) = TCM.sqOut n := by
              rw [← ge]
              show _ = (if n' = 1 then (o, i, n') else if (TCM.whl 10 p n' o).1 % p = 0 then TCM.sqL (TCM.primes.drop (j + 1)) ((TCM.whl 10 p n' o).1 / p) (TCM.whl 10 p n' o).2 (i * p) else TCM.sqL (TCM.primes.drop (j + 1)) (TCM.whl 10 p n' o).1 (TCM.whl 10 p n' o).2 i)
              rw [if_neg hn1, ew]
            refine ⟨_, rfl, _, rfl, n2, p, rfl, rfl, by show 0 < p; omega, rfl, _, rfl, ?_⟩
            by_cases hz2 : n2 % p = 0
            · refine iteD1 (congrArg V.int hz2) ?_
              rw [if_pos hz2] at ge2
              have e3 := Int.mul_ediv_add_emod n2 p
              have l1 : 0 < n2 / p := by
                rcases Int.lt_or_le 0 (n2 / p) with z | z
                · exact z
                · have := Int.mul_le_mul_of_nonneg_left z (show 0 ≤ p by omega)
                  rw [Int.mul_zero] at this
                  omega
              have l2 : n2 / p ≤ 1000000 := Int.le_trans (Int.ediv_le_self _ (by omega)) w1
              exact ⟨_, rfl, _, rfl, n2, p, rfl, rfl, ⟨by omega, by omega⟩, _, rfl, _, rfl, i, p, rfl, rfl, cmul_r (by omega) (by omega), n2 / p, o2, i * p, some (.int p), rfl, rfl, l1, l2, ge2⟩
            · refine iteD0 (ine hz2) ?_
              rw [if_neg hz2] at ge2
              exact ⟨n2, o2, i, some (.int p), rfl, rfl, w0, w1, ge2⟩
      · obtain ⟨n', o, i, pr, rfl, rfl, g0, g1, ge⟩ := hP
        rw [List.length_map, List.drop_length] at ge
        have e2 : (o, i, n') = TCM.sqOut n := ge
        rw [← e2] at q
        exact ⟨_, rfl, _, rfl, _, rfl, by show 3 ≤ sizeLine; decide, fun p hp => q p hp⟩
/-! ### _law_low -/
def spLowL : Sp := fun vs H Q _ => ∃ (t b : Int) (A : Nat), vs = [.int t, .int b] ∧ b ≠ 0 ∧ b.natAbs < 2 ^ A ∧ 0 < A ∧ A ≤ 8000 ∧ ∀ p, H p = none → Q (.ref p) (upd H p (.tup [.int (TCM.lowL t b).1, .int (TCM.lowL t b).2]))
theorem scLowL : FnScope ["_law_up", "_law_under", "_law_one", "_law_other"] ["_law_up", "_law_under"] (defScope sLow) := ⟨rfl, rfl, rfl, by decide +kernel, rfl, by decide +kernel, by decide +kernel⟩
theorem ok_lowL (F : FnP K "_law_low" sLow f fd) (gA : mg "abs" = none) : FnOk P w K mg base CX0 1 f fd ["_law_up", "_law_under"] spLowL := by
  refine F.ok scLowL (fun vs H Q E h => ?_) (fun cdv A outer s H vs Q E hr h => ?_)
  · obtain ⟨a, b, _, rfl, _⟩ := h
    rfl
  · obtain ⟨t, b, Ab, rfl, hb, hz, hA0, hA8, q⟩ := h
    refine ⟨_, PSs.nox (pss_cons (ps_par (i := 2) (j := 3) rfl scLowL.nd rfl rfl (by decide) rfl rfl (pa_cons (pe_callB call_abs (by rfl) gA (by decide +kernel) (pa_cons (pv 0) pa_nil)) (pa_cons (pe_callB call_abs (by rfl) gA (by decide +kernel) (pa_cons (pv 1) pa_nil)) pa_nil)) (by rfl))
      (pss_cons (ps_while PassesOwn.never (pt_cmpR op_gt (pv 3) pe_int (nomark _))
        (pss_one (ps_par (i := 2) (j := 3) rfl scLowL.nd rfl rfl (by decide) rfl rfl (pa_cons (pv 3) (pa_cons (pe_op op_modN (pv 2) (pv 3)) pa_nil)) (by rfl))))
      (pss_one (ps_ret (pe_ifExp (pt_cmpR op_gt (pv 1) pe_int (nomark _))
        (pe_tup (pa_cons (pe_op op_fdivNW (pv 0) (pv 2)) (pa_cons (pe_op op_fdivNW (pv 1) (pv 2)) pa_nil)))
        (pe_tup (pa_cons (pe_op op_fdivNW (pe_un un_neg (pv 0)) (pv 2)) (pa_cons (pe_op op_fdivNW (pe_un un_neg (pv 1)) (pv 2)) pa_nil)))))))), ?_⟩
    refine ⟨_, rfl, t, rfl, _, rfl, b, rfl, _, _, rfl, ?_⟩
    refine ⟨fun m σ H' => ∃ x y : Int, σ = [some (.int t), some (.int b), some (.int x), some (.int y)] ∧ H' = H ∧ 0 ≤ x ∧ 0 ≤ y ∧ Int.gcd x y = Int.gcd t b ∧ y.natAbs = m,
      ⟨_, ((t.natAbs : Nat) : Int), ((b.natAbs : Nat) : Int), ?_, rfl, by omega, by omega, rfl, rfl⟩, fun m σ H' hW => ?_⟩
    · show [some (V.int t), some (V.int b), some (V.int (if t < 0 then -t else t)), some (V.int (if b < 0 then -b else b))] = _
      rw [TCM.abs_eq, TCM.abs_eq]
    · obtain ⟨x, y, rfl, rfl, x0, y0, eg, em⟩ := hW
      refine ⟨_, rfl, y, 0, rfl, rfl, _, rfl, ?_⟩
      by_cases hy : y > 0
      · refine iteD1 hy ?_
        refine ⟨fun σ' H'' => ∃ x' y' : Int, σ' = [some (.int t), some (.int b), some (.int x'), some (.int y')] ∧ H'' = H' ∧ 0 ≤ x' ∧ 0 ≤ y' ∧ Int.gcd x' y' = Int.gcd t b ∧ y'.natAbs < m, fun σ' H'' hN => ?_, ?_⟩
        · obtain ⟨x', y', e1, e2, e3, e4, e5, e6⟩ := hN
          exact ⟨_, e6, x', y', e1, e2, e3, e4, e5, rfl⟩
        · refine ⟨_, rfl, _, rfl, _, rfl, x, y, rfl, rfl, by show y ≠ 0; omega, _, _, rfl, y, x.fmod y, rfl, rfl, y0, Int.fmod_nonneg_of_pos x hy, ?_, ?_⟩
          · rw [TCM.gcd_fmod, eg]
          · rw [← em]
            exact TCM.fmod_lt x y (by omega)
      · refine iteD0 hy ?_
        have ey : y = 0 := by omega
        subst ey
        have ex : x = ((Int.gcd t b : Nat) : Int) := by
          rw [← eg, show Int.gcd x 0 = x.natAbs from Int.gcd_zero_right x]
          omega
        subst ex
        have gp := TCM.gcd_pos t b hb
        have hs : ∀ z, CDivNW z ((Int.gcd t b : Nat) : Int) := fun z => ⟨by omega, log_lt (n := Ab) (by omega) hA0 (Nat.lt_of_le_of_lt (by
          have := TCM.gcd_le t b hb
          omega) hz)⟩
        refine ⟨_, rfl, b, 0, rfl, rfl, _, rfl, ?_⟩
        by_cases hb0 : b > 0
        · refine iteD1 hb0 ?_
          have e : TCM.lowL t b = (t.fdiv ((Int.gcd t b : Nat) : Int), b.fdiv ((Int.gcd t b : Nat) : Int)) := if_pos hb0
          rw [e] at q
          exact ⟨_, rfl, _, rfl, t, _, rfl, rfl, hs _, _, rfl, _, rfl, b, _, rfl, rfl, hs _, by show 2 ≤ sizeLine; decide, fun p hp => q p hp⟩
        · refine iteD0 hb0 ?_
          have e : TCM.lowL t b = ((-t).fdiv ((Int.gcd t b : Nat) : Int), (-b).fdiv ((Int.gcd t b : Nat) : Int)) := if_neg hb0
          rw [e] at q
          exact ⟨_, rfl, t, rfl, _, rfl, -t, _, rfl, rfl, hs _, _, rfl, b, rfl, _, rfl, -b, _, rfl, rfl, hs _, by show 2 ≤ sizeLine; decide, fun p hp => q p hp⟩
/-! ### _law_pen -/
def spPen (K : PySem.W.Frag) : Sp := fun vs H Q _ => ∃ (a : Addr) (ns : List Int), vs = [.ref a] ∧ SqL K H a (ns.map V.int) ∧ ns.length ≤ 63 ∧
  ∀ (p c : Addr) (ms : List Int) H', Same H H' → H p = none → H' p = some (.lst [.ref c, .int 0, .int 0]) → H' c = some (.lst (ms.map V.int)) → p ≠ c → Q (.ref p) H'
theorem scPen : FnScope ["_law_script"] ["_law_script"] (defScope sPen) := ⟨rfl, rfl, rfl, by decide +kernel, rfl, by decide +kernel, by decide +kernel⟩
theorem ok_pen (F : FnP K "_law_pen" sPen f fd) (gl : mg "list" = none) : FnOk P w K mg base CX0 1 f fd ["_law_script"] (spPen K) := by
  refine F.ok scPen (fun vs H Q E h => ?_) (fun cdv A outer s H vs Q E hr h => ?_)
  · obtain ⟨a, ns, rfl, _⟩ := h
    rfl
  · obtain ⟨a, ns, rfl, hS, hn, q⟩ := h
    refine ⟨_, PSs.nox (pss_one (ps_ret (pe_lst (pa_cons (pe_callTy call_list_of (by rfl) gl (by decide +kernel) (pa_cons (pe_slice sl_list (pv 0) po_none (po_some pe_int)) pa_nil)) (pa_cons pe_int (pa_cons pe_int pa_nil)))))), ?_⟩
    refine ⟨_, rfl, _, rfl, a, _, rfl, hS, fun c1 hc1 => ?_⟩
    have sm1 := same_upd (o := .lst (cutV (ns.map V.int) none (some 63))) hc1
    refine ⟨c1, _, rfl, .inl (SqL.of upd_same), fun c hc => ?_⟩
    have sm2 := same_upd (o := .lst (cutV (ns.map V.int) none (some 63))) hc
    refine ⟨by show 3 ≤ sizeLine; decide, fun p hp => ?_⟩
    have sm3 := same_upd (o := .lst [.ref c, .int 0, .int 0]) hp
    have ec : cutV (ns.map V.int) none (some 63) = ((ns.drop (HT.sIx (ns.map V.int).length 0 none)).take (HT.sIx (ns.map V.int).length (ns.map V.int).length (some 63) - HT.sIx (ns.map V.int).length 0 none)).map V.int := by
      rw [List.map_take, List.map_drop]
      rfl
    refine q p c ((ns.drop (HT.sIx (ns.map V.int).length 0 none)).take (HT.sIx (ns.map V.int).length (ns.map V.int).length (some 63) - HT.sIx (ns.map V.int).length 0 none)) _ ((sm1.trans sm2).trans sm3) ((sm1.trans sm2).free hp) upd_same ?_ ?_
    · rw [← ec]
      exact sm3 _ _ upd_same
    · exact fun e => by
        rw [e, upd_same] at hp
        cases hp
/-! ### _law_draw -/
/-- the pen: its cells at c, where it stands, what is left of a great cell -/
def PenAt (H : Hp) (p c : Addr) (ms : List Int) (n : Int) : Prop := ∃ left : Int, H p = some (.lst [.ref c, .int n, .int left]) ∧ H c = some (.lst (ms.map V.int)) ∧ p ≠ c
/-- all but the pen is as it was -/
def SameBut (p : Addr) (H H' : Hp) : Prop := ∀ b o, b ≠ p → H b = some o → H' b = some o
def spDraw : Sp := fun vs H Q _ => ∃ (p c : Addr) (ms : List Int) (n m : Int), vs = [.ref p, .int m] ∧ PenAt H p c ms n ∧ 0 ≤ n ∧ n ≤ 1000000 ∧ 0 < m ∧ m < 2 ^ 1000 ∧
  ∀ (d n' : Int) H', 0 ≤ d → d < m → n ≤ n' → n' ≤ n + 1 → PenAt H' p c ms n' → SameBut p H H' → Q (.int d) H'
theorem scDraw : FnScope ["_law_pen_here", "_law_many", "_law_found", "_law_at", "_law_cell", "_law_number"] ["_law_pen_here", "_law_many"] (defScope sDraw) := ⟨rfl, rfl, rfl, by decide +kernel, rfl, by decide +kernel, by decide +kernel⟩
theorem but_upd {p : Addr} {H H1 : Hp} {o : HO} (s : SameBut p H H1) : SameBut p H (upd H1 p o) := fun b x hb e => by
  rw [upd_ne hb]
  exact s b x hb e
set_option exponentiation.threshold 2000 in
theorem wdiv {i m : Int} (h : 0 < m) (h2 : m < 2 ^ 1000) : CDivW i m := ⟨h, Nat.lt_of_lt_of_le (PySem.Flt.log2_lt_of (show 0 < 1000 by decide) (show m.natAbs < 2 ^ 1000 by omega)) (by decide)⟩
theorem ok_draw (F : FnP K "_law_draw" sDraw f fd) (gl : mg "len" = none) : FnOk P w K mg base CX0 1 f fd ["_law_pen_here", "_law_many"] spDraw := by
  refine F.ok scDraw (fun vs H Q E h => ?_) (fun cdv A outer s H vs Q E hr h => ?_)
  · obtain ⟨p, c, ms, n, m, rfl, _⟩ := h
    rfl
  · obtain ⟨p, c, ms, n, m, rfl, ⟨left, hp, hc, hpc⟩, n0, n1, m0, m1, q⟩ := h
    refine ⟨_, PSs.nox (pss_cons (ps_if (pt_cmpR op_gt (pe_ix ix_list (pv 0) pe_int (fun _ _ => rfl)) pe_int (nomark _))
        (pss_cons (ps_set (i := 2) scDraw.nd rfl (.inl rfl) (pe_op op_mod (pe_ix ix_list (pv 0) pe_int (fun _ _ => rfl)) (pv 1)))
        (pss_cons (ps_asg (pe_op op_fdivW (pe_ix ix_list (pv 0) pe_int (fun _ _ => rfl)) (pv 1)) (pg_sub (pv 0) pe_int set_list))
        (pss_one (ps_ret (pv 2))))) pss_nil)
      (pss_cons (ps_set (i := 3) scDraw.nd rfl (.inl rfl) (pe_ix ix_list (pv 0) pe_int (fun _ _ => rfl)))
      (pss_cons (ps_asg (pe_op op_add (pv 3) pe_int) (pg_sub (pv 0) pe_int set_list))
      (pss_cons (ps_set (i := 4) scDraw.nd rfl (.inl rfl) pe_int)
      (C8.pss_cut (ps_if (pt_cmpR op_gt (pe_callB call_len_seq (by rfl) gl PySem.boot_len (pa_cons (pe_ix ix_list (pv 0) pe_int (fun _ _ => rfl)) pa_nil)) pe_int (nomark _))
        (pss_one (ps_set (i := 4) scDraw.nd rfl (.inl rfl) (pe_ix ix_list (pe_ix ix_list (pv 0) pe_int (fun _ _ => rfl)) (pe_op op_mod (pv 3) (pe_callB call_len_seq (by rfl) gl PySem.boot_len (pa_cons (pe_ix ix_list (pv 0) pe_int (fun _ _ => rfl)) pa_nil))) (fun _ _ => rfl)))) pss_nil)
      (C8.pss_cut (ps_if (PW.pt (pw_and (pt_cmpR op_lt (pv 3) (pe_callB call_len_seq (by rfl) gl PySem.boot_len (pa_cons (pe_ix ix_list (pv 0) pe_int (fun _ _ => rfl)) pa_nil)) (nomark _)) (pw_and1 (pt_cmpR op_ge (pv 4) (pe_op op_pow pe_int pe_int) (nomark _)))))
        (pss_cons (ps_asg (pe_op op_fdivW (pv 4) (pv 1)) (pg_sub (pv 0) pe_int set_list)) (pss_one (ps_ret (pe_op op_mod (pv 4) (pv 1))))) pss_nil)
      (pss_cons (ps_set (i := 5) scDraw.nd rfl (.inl rfl) (pe_op op_mod (pe_op op_mul (pe_op op_add (pe_op op_mod (pv 4) pe_int) pe_int) (pe_op op_add (pe_op op_add (pe_op op_mul (pv 3) (pv 3)) (pe_op op_mul pe_int (pv 3))) pe_int)) pe_int))
      (pss_cons (ps_set (i := 5) scDraw.nd rfl (.inl rfl) (pe_op op_mod (pe_op op_mul (pe_op op_mod (pe_op op_add (pe_op op_pow (pv 5) pe_int) (pe_op op_mul pe_int (pv 3))) pe_int) pe_int) pe_int))
      (C8.pss_cut (ps_if (pt_cmpR op_gt (pv 1) (pe_op op_pow pe_int pe_int) (nomark _))
        (pss_one (ps_set (i := 5) scDraw.nd rfl (.inl rfl) (pe_op op_add (pe_op op_mul (pv 5) pe_int) (pe_op op_mod (pe_op op_mul (pe_op op_mod (pv 5) pe_int) pe_int) pe_int)))) pss_nil)
      (pss_one (ps_ret (pe_op op_mod (pe_op op_fdiv (pv 5) pe_int) (pv 1))))))))))))), ?_⟩
    have i2 : atI ([.ref c, .int n, .int left] : List V) 2 = some (.int left) := atI_nat (j := 2) rfl
    have i1 : atI ([.ref c, .int n, .int left] : List V) 1 = some (.int n) := atI_nat (j := 1) rfl
    refine ⟨_, rfl, p, _, 2, _, rfl, rfl, SqL.of hp, i2, left, 0, rfl, rfl, _, rfl, ?_⟩
    by_cases hl : 0 < left
    · refine iteD1 hl ?_
      refine ⟨_, rfl, p, _, 2, _, rfl, rfl, SqL.of hp, i2, _, rfl, left, m, rfl, rfl, m0, ?_⟩
      refine ⟨_, rfl, p, _, 2, _, rfl, rfl, SqL.of hp, i2, _, rfl, left, m, rfl, rfl, wdiv m0 m1, ?_⟩
      refine ⟨_, rfl, p, _, 2, 2, rfl, rfl, hp, rfl, ?_⟩
      refine ⟨_, rfl, ?_⟩
      exact q _ n _ (Int.emod_nonneg _ (by omega)) (Int.emod_lt_of_pos _ m0) (by omega) (by omega) ⟨left / m, upd_same, by rw [upd_ne hpc.symm]; exact hc, hpc⟩ (but_upd fun _ _ _ e => e)
    · refine iteD0 hl ?_
      refine ⟨_, rfl, p, _, 1, _, rfl, rfl, SqL.of hp, i1, ?_⟩
      refine ⟨_, rfl, n, 1, rfl, rfl, _, rfl, p, _, 1, 1, rfl, rfl, hp, rfl, ?_⟩
      have hp2u : (upd H p (.lst [.ref c, .int (n + 1), .int left])) p = some (.lst [.ref c, .int (n + 1), .int left]) := upd_same
      have hc2u : (upd H p (.lst [.ref c, .int (n + 1), .int left])) c = some (.lst (ms.map V.int)) := by
        rw [upd_ne hpc.symm]
        exact hc
      obtain ⟨H2, eH2⟩ : ∃ H2 : Hp, upd H p (.lst [.ref c, .int (n + 1), .int left]) = H2 := ⟨_, rfl⟩
      have hp2 : H2 p = some (.lst [.ref c, .int (n + 1), .int left]) := by
        rw [← eH2]
        exact hp2u
      have hc2 : H2 c = some (.lst (ms.map V.int)) := by
        rw [← eH2]
        exact hc2u
      have sb : SameBut p H H2 := by
        rw [← eH2]
        exact but_upd fun _ _ _ e => e
      have j0 : atI ([.ref c, .int (n + 1), .int left] : List V) 0 = some (.ref c) := atI_nat (j := 0) rfl
      refine ⟨fun σ H' => ∃ cell : Int, σ = [some (.ref p), some (.int m), none, some (.int n), some (.int cell), none] ∧ H' = H2, ?_, fun σ' H' hM => ?_⟩
      · refine ⟨_, rfl, p, _, 0, _, rfl, rfl, SqL.of hp2u, j0, c, _, rfl, .inl (SqL.of hc2u), _, 0, rfl, rfl, _, rfl, ite2 (fun e => ?_) (fun e => ?_)⟩
        · have e2 : 0 < ((ms.map V.int).length : Int) := of_decide_eq_true e
          rw [List.length_map] at e2
          have hk0 := Int.emod_nonneg n (show (ms.length : Int) ≠ 0 by omega)
          have hk1 := Int.emod_lt_of_pos n e2
          have hk : (n % (ms.length : Int)).toNat < ms.length := by omega
          refine ⟨_, rfl, p, _, 0, _, rfl, rfl, SqL.of hp2u, j0, _, rfl, _, rfl, p, _, 0, _, rfl, rfl, SqL.of hp2u, j0, c, _, rfl, .inl (SqL.of hc2u), n, _, rfl, rfl, by
            show 0 < ((ms.map V.int).length : Int)
            rw [List.length_map]
            exact e2, c, _, _, .int (ms[(n % (ms.length : Int)).toNat]), rfl, rfl, SqL.of hc2u, ?_, ?_⟩
          · rw [List.length_map]
            exact at_of (j := (n % (ms.length : Int)).toNat) (by omega) (by rw [List.getElem?_map, List.getElem?_eq_getElem hk]; rfl)
          · exact ⟨_, rfl, eH2⟩
        · exact ⟨7, rfl, eH2⟩
      · obtain ⟨cell, rfl, eM⟩ := hM
        replace eM := eM.symm
        subst eM
        refine ⟨fun σ H' => σ = [some (.ref p), some (.int m), none, some (.int n), some (.int cell), none] ∧ H' = H2, ?_, fun σ' H' hM => ?_⟩
        · refine ⟨_, rfl, _, rfl, p, _, 0, _, rfl, rfl, SqL.of hp2, j0, c, _, rfl, .inl (SqL.of hc2), n, _, rfl, rfl, _, rfl, ite2 (fun _ => ?_) (fun _ => iteF ⟨rfl, rfl⟩)⟩
          refine ⟨_, rfl, 10, 18, rfl, rfl, ⟨by decide, by decide, by decide⟩, cell, _, rfl, rfl, _, rfl, ite2 (fun _ => ?_) (fun _ => ⟨rfl, rfl⟩)⟩
          refine ⟨_, rfl, _, rfl, cell, m, rfl, rfl, wdiv m0 m1, _, rfl, p, _, 2, 2, rfl, rfl, hp2, rfl, ?_⟩
          refine ⟨_, rfl, _, rfl, cell, m, rfl, rfl, m0, ?_⟩
          exact q _ (n + 1) _ (Int.emod_nonneg _ (by omega)) (Int.emod_lt_of_pos _ m0) (by omega) (by omega) ⟨cell / m, upd_same, by rw [upd_ne hpc.symm]; exact hc2, hpc⟩ (but_upd sb)
        · obtain ⟨rfl, eM⟩ := hM
          replace eM := eM.symm
          subst eM
          have c0 := Int.emod_nonneg cell (show (2147483629 : Int) ≠ 0 by decide)
          have c1 := Int.emod_lt_of_pos cell (show (0 : Int) < 2147483629 by decide)
          refine ⟨_, rfl, cell, 2147483629, rfl, rfl, (show (0 : Int) < 2147483629 by decide), _, 11, rfl, rfl, _, rfl, _, rfl, n, n, rfl, rfl, .inl ⟨by omega, by omega⟩, _, rfl, 5, n, rfl, rfl, .inl ⟨by decide, by decide⟩, _, _, rfl, rfl, _, 3, rfl, rfl, _, _, rfl, rfl, .inl ⟨by omega, by omega⟩, _, 2147483647, rfl, rfl, (show (0 : Int) < 2147483647 by decide), ?_⟩
          have hz2 : ∀ z : Int, (z % 2147483647).natAbs < 2 ^ 64 := fun z => by
            have d0 := Int.emod_nonneg z (show (2147483647 : Int) ≠ 0 by decide)
            have d1 := Int.emod_lt_of_pos z (show (0 : Int) < 2147483647 by decide)
            omega
          refine ⟨_, rfl, _, 3, rfl, rfl, ⟨by decide, by decide, hz2 _⟩, _, rfl, 69621, n, rfl, rfl, .inl ⟨by decide, by decide⟩, _, _, rfl, rfl, _, 2147483587, rfl, rfl, (show (0 : Int) < 2147483587 by decide), _, 40692, rfl, rfl, .inr ⟨by decide, by decide⟩, _, 2147483399, rfl, rfl, (show (0 : Int) < 2147483399 by decide), ?_⟩
          refine ⟨fun σ H' => ∃ z : Int, σ = [some (.ref p), some (.int m), none, some (.int n), some (.int cell), some (.int z)] ∧ H' = H2, ?_, fun σ' H' hM => ?_⟩
          · refine ⟨_, rfl, 10, 6, rfl, rfl, ⟨by decide, by decide, by decide⟩, m, _, rfl, rfl, _, rfl, ite2 (fun _ => ?_) (fun _ => ⟨_, rfl, rfl⟩)⟩
            exact ⟨_, rfl, _, 2147483629, rfl, rfl, .inr ⟨by decide, by decide⟩, _, rfl, _, 1000003, rfl, rfl, (show (0 : Int) < 1000003 by decide), _, 48271, rfl, rfl, .inr ⟨by decide, by decide⟩, _, 2147483587, rfl, rfl, (show (0 : Int) < 2147483587 by decide), _, _, rfl, rfl, _, rfl, rfl⟩
          · obtain ⟨z, rfl, eM⟩ := hM
            replace eM := eM.symm
            subst eM
            refine ⟨_, rfl, z, 64, rfl, rfl, ⟨by decide, by decide⟩, _, rfl, _, m, rfl, rfl, m0, ?_⟩
            exact q _ (n + 1) _ (Int.emod_nonneg _ (by omega)) (Int.emod_lt_of_pos _ m0) (by omega) (by omega) ⟨left, hp2, hc2, hpc⟩ sb
end
end TC
namespace TC
open PySem PySem.Spec PyProof.Rows L2 TCA
/-- one, or with a prime of the list in it -/
def OnePr (o : Int) : Prop := o = 1 ∨ ∃ p ∈ TCM.primes, p ∣ o
structure Sq (n o i r : Int) : Prop where
  o0 : 0 < o
  i0 : 0 < i
  r0 : 0 < r
  eq : n = o * o * i * r
  oP : OnePr o
  iP : OnePr i
  rest : r = 1 ∨ ∀ p ∈ TCM.primes, ¬ p ∣ r
structure SqS (n o i r : Int) (ps : List Int) : Prop where
  o0 : 0 < o
  i0 : 0 < i
  r0 : 0 < r
  eq : n = o * o * i * r
  oP : OnePr o
  iP : OnePr i
  rest : ∀ p ∈ ps, ¬ p ∣ r
theorem onePr_mul {o p : Int} (hp : p ∈ TCM.primes) : OnePr (o * p) := .inr ⟨p, hp, Int.dvd_mul_left ..⟩
theorem SqS.turn {n o i r p : Int} {ps : List Int} (h : SqS n o i r ps) (hp : p ∈ TCM.primes) (p2 : 2 ≤ p) (hz : r % (p * p) = 0) : SqS n (o * p) i (r / (p * p)) ps ∧ (r / (p * p)).toNat < r.toNat := by
  obtain ⟨a, b, c⟩ := TCM.sq_div h.r0 (TCM.pp4 p2) hz
  have e : p * p * (r / (p * p)) = r := by
    have := Int.mul_ediv_add_emod r (p * p)
    omega
  refine ⟨⟨Int.mul_pos h.o0 (by omega), h.i0, a, ?_, onePr_mul hp, h.iP, fun q hq hd => h.rest q hq (Int.dvd_trans hd ⟨p * p, ?_⟩)⟩, by omega⟩
  · have := h.eq
    generalize r / (p * p) = m at e ⊢
    subst e
    rw [this]
    grind
  · rw [Int.mul_comm]
    exact e.symm
theorem SqS.last {n o i r p : Int} {ps : List Int} (h : SqS n o i r ps) (hp : p ∈ TCM.primes) (p2 : 2 ≤ p) (hz : ¬ r % (p * p) = 0) (hz2 : r % p = 0) : SqS n o (i * p) (r / p) (ps ++ [p]) := by
  have e : p * (r / p) = r := by
    have := Int.mul_ediv_add_emod r p
    omega
  have l1 : 0 < r / p := by
    rcases Int.lt_or_le 0 (r / p) with z | z
    · exact z
    · have := Int.mul_le_mul_of_nonneg_left z (show 0 ≤ p by omega)
      rw [Int.mul_zero] at this
      have := h.r0
      omega
  refine ⟨h.o0, Int.mul_pos h.i0 (by omega), l1, ?_, h.oP, onePr_mul hp, fun q hq hd => ?_⟩
  · have := h.eq
    generalize r / p = m at e ⊢
    subst e
    rw [this]
    grind
  · rcases List.mem_append.mp hq with hq | hq
    · exact h.rest q hq (Int.dvd_trans hd ⟨p, by rw [Int.mul_comm]; exact e.symm⟩)
    · rw [List.mem_singleton.mp hq] at hd
      obtain ⟨k, hk⟩ := hd
      refine hz (Int.emod_eq_zero_of_dvd ⟨k, ?_⟩)
      rw [Int.mul_assoc, ← hk]
      exact e.symm
theorem SqS.none {n o i r p : Int} {ps : List Int} (h : SqS n o i r ps) (hz2 : ¬ r % p = 0) : SqS n o i r (ps ++ [p]) :=
  ⟨h.o0, h.i0, h.r0, h.eq, h.oP, h.iP, fun q hq hd => by
    rcases List.mem_append.mp hq with hq | hq
    · exact h.rest q hq hd
    · rw [List.mem_singleton.mp hq] at hd
      exact hz2 (Int.emod_eq_zero_of_dvd hd)⟩
section
variable {P : Program} {w : World} {K : PySem.W.Frag} {mg : Str → Option Value} {base : Heap} {f : Addr} {fd : FuncData}
/-! ### squares_out of any number -/
def spSqBig : Sp := fun vs H Q _ => ∃ n : Int, vs = [.int n] ∧ 0 < n ∧ ∀ p o i r H', Same H H' → H p = none → Sq n o i r → H' p = some (.tup [.int o, .int i, .int r]) → Q (.ref p) H'
theorem ok_sqBig {aP : Addr} (F : FnP K "squares_out" sSquares f fd) (gP : mg "PRIMES" = some (.ref aP)) (hT : ∀ H, SqT K H aP (TCM.primes.map V.int)) : FnOk P w K mg base CX0 1 f fd ["number"] spSqBig := by
  refine F.ok scSquares (fun vs H Q E h => ?_) (fun cdv A outer s H vs Q E hr h => ?_)
  · obtain ⟨a, rfl, _⟩ := h
    rfl
  · obtain ⟨n, rfl, h0, q⟩ := h
    refine ⟨_, PSs.nox (pss_cons (ps_if (pt_cmpR op_eq (pv 0) pe_int (nomark _)) (pss_one (ps_ret (pe_tup (pa_cons pe_int (pa_cons pe_int (pa_cons pe_int pa_nil)))))) pss_nil)
      (pss_cons (ps_asg (pe_tup (pa_cons pe_int (pa_cons pe_int pa_nil))) (pg_tup rfl (pgs_cons (pg_name (i := 1) scSquares.nd rfl (.inl rfl)) (pgs_cons (pg_name (i := 2) scSquares.nd rfl (.inl rfl)) pgs_nil))))
      (pss_cons (ps_for PassesOwn.never rfl (pi_tup (pe_glob (v := .ref aP) (by rfl) gP rfl)) (pg_name (i := 3) scSquares.nd rfl (.inl rfl))
        (pss_cons (ps_if (pt_cmpR op_eq (pv 0) pe_int (nomark _)) (pss_one ps_break) pss_nil)
        (pss_cons (ps_while PassesOwn.never (pt_cmpR op_eq (pe_op op_mod (pv 0) (pe_op op_mul (pv 3) (pv 3))) pe_int (nomark _))
          (pss_cons (ps_aug (i := 0) scSquares.nd rfl (.inl rfl) (pe_op op_mul (pv 3) (pv 3)) iop_fdiv) (pss_one (ps_aug (i := 1) scSquares.nd rfl (.inl rfl) (pv 3) iop_mul))))
        (pss_one (ps_if (pt_cmpR op_eq (pe_op op_mod (pv 0) (pv 3)) pe_int (nomark _))
          (pss_cons (ps_aug (i := 0) scSquares.nd rfl (.inl rfl) (pv 3) iop_fdiv) (pss_one (ps_aug (i := 2) scSquares.nd rfl (.inl rfl) (pv 3) iop_mul))) pss_nil)))))
      (pss_one (ps_ret (pe_tup (pa_cons (pv 1) (pa_cons (pv 2) (pa_cons (pv 0) pa_nil))))))))), ?_⟩
    refine ⟨_, rfl, rfl, _, rfl, ?_⟩
    refine iteD0 (ine (by omega)) ?_
    refine ⟨by show 2 ≤ sizeLine; decide, fun c hc => ?_⟩
    refine ⟨c, _, rfl, SqT.of upd_same, rfl, _, _, rfl, _, _, rfl, rfl, ?_⟩
    have sm1 : Same H (upd H c (.tup [.int 1, .int 1])) := same_upd hc
    replace q : ∀ p o i r, (upd H c (.tup [.int 1, .int 1])) p = none → Sq n o i r → Q (.ref p) (upd (upd H c (.tup [.int 1, .int 1])) p (.tup [.int o, .int i, .int r])) := fun p o i r hp hs => q p o i r _ (sm1.trans (same_upd hp)) (sm1.free hp) hs upd_same
    generalize upd H c (.tup [.int 1, .int 1]) = H at q ⊢
    refine ⟨aP, rfl, ⟨_, hT H⟩, for_tup (xs := TCM.primes.map V.int) (fun j σ H' => ∃ (n' o i : Int) (pr : Option V), σ = [some (.int n'), some (.int o), some (.int i), pr] ∧ H' = H ∧ SqS n o i n' (TCM.primes.take j))
      ⟨n, 1, 1, none, rfl, rfl, ⟨by decide, by decide, h0, by omega, .inl rfl, .inl rfl, fun p hp => by cases hp⟩⟩ (fun j σ H' _ hP => ?_) (fun j x σ H' hx hP => ?_) (fun σ H' hP => ?_)⟩
    · obtain ⟨_, _, _, _, _, rfl, _⟩ := hP
      exact hT _
    · obtain ⟨n', o, i, pr, rfl, rfl, ge⟩ := hP
      rw [List.getElem?_map] at hx
      obtain ⟨p, hp, rfl⟩ : ∃ p, TCM.primes[j]? = some p ∧ V.int p = x := by
        cases e : TCM.primes[j]? with
        | none =>
          rw [e] at hx
          cases hx
        | some p =>
          rw [e] at hx
          exact ⟨p, rfl, Option.some.inj hx⟩
      have hpm := List.mem_of_getElem? hp
      obtain ⟨p2, p9⟩ := primes_ok p hpm
      have htake : TCM.primes.take (j + 1) = TCM.primes.take j ++ [p] := by
        rw [List.take_add_one, hp]
        rfl
      rw [htake]
      obtain ⟨pp1, pp2⟩ := pp_le p2 p9
      have cd : CDiv n' (p * p) := ⟨by omega, by omega⟩
      refine ⟨_, rfl, rfl, _, rfl, ?_⟩
      by_cases hn1 : n' = 1
      · subst hn1
        refine iteD1 rfl ?_
        exact ⟨_, rfl, _, rfl, _, rfl, by show 3 ≤ sizeLine; decide, fun p hp => q p o i 1 hp ⟨ge.o0, ge.i0, by decide, ge.eq, ge.oP, ge.iP, .inl rfl⟩⟩
      · refine iteD0 (ine hn1) ?_
        refine ⟨fun m σ H'' => ∃ (n2 o2 : Int), σ = [some (.int n2), some (.int o2), some (.int i), some (.int p)] ∧ H'' = H' ∧ SqS n o2 i n2 (TCM.primes.take j) ∧ n2.toNat = m,
          ⟨_, n', o, rfl, rfl, ge, rfl⟩, fun m σ H'' hW => ?_⟩
        obtain ⟨n2, o2, rfl, rfl, hw, hm⟩ := hW
        refine ⟨_, rfl, _, rfl, _, rfl, p, p, rfl, rfl, cmul_r (by omega) (by omega), n2, p * p, rfl, rfl, by show 0 < p * p; omega, rfl, _, rfl, ?_⟩
        by_cases hz : n2 % (p * p) = 0
        · refine iteD1 (congrArg V.int hz) ?_
          obtain ⟨hw2, hlt⟩ := hw.turn hpm p2 hz
          refine ⟨fun σ' H3 => σ' = [some (.int (n2 / (p * p))), some (.int (o2 * p)), some (.int i), some (.int p)] ∧ H3 = H'', fun σ' H3 hN => ?_, ?_⟩
          · obtain ⟨rfl, rfl⟩ := hN
            exact ⟨_, hm ▸ hlt, _, _, rfl, rfl, hw2, rfl⟩
          · exact ⟨_, rfl, _, rfl, _, rfl, p, p, rfl, rfl, cmul_r (by omega) (by omega), n2, p * p, rfl, rfl, ⟨by omega, by omega⟩, _, rfl, _, rfl, o2, p, rfl, rfl, cmul_r (by omega) (by omega), rfl, rfl⟩
        · refine iteD0 (ine hz) ?_
          refine ⟨_, rfl, _, rfl, n2, p, rfl, rfl, by show 0 < p; omega, rfl, _, rfl, ?_⟩
          by_cases hz2 : n2 % p = 0
          · refine iteD1 (congrArg V.int hz2) ?_
            exact ⟨_, rfl, _, rfl, n2, p, rfl, rfl, ⟨by omega, by omega⟩, _, rfl, _, rfl, i, p, rfl, rfl, cmul_r (by omega) (by omega), n2 / p, o2, i * p, some (.int p), rfl, rfl, hw.last hpm p2 hz hz2⟩
          · refine iteD0 (ine hz2) ?_
            exact ⟨n2, o2, i, some (.int p), rfl, rfl, hw.none hz2⟩
    · obtain ⟨n', o, i, pr, rfl, rfl, ge⟩ := hP
      rw [List.length_map, List.take_length] at ge
      exact ⟨_, rfl, _, rfl, _, rfl, by show 3 ≤ sizeLine; decide, fun p hp => q p o i n' hp ⟨ge.o0, ge.i0, ge.r0, ge.eq, ge.oP, ge.iP, .inr ge.rest⟩⟩
end
end TC
/-! name = {k: v for ..}, the name a local: the dict is stored while the comprehension's block still stands. -/
namespace TCA
open PySem PySem.Spec PyProof.Rows L2
section
variable {X : Cx}
theorem sw_dict {kx vx : Expr} {gs : List Comprehension} {scope : Scope} {pos py : Pos} {y : Str} {l : Nat} {env : Env} (hk : env.scope.kind = .function) (hy : env.scope.names.lookup y = some .local) (hl : (py.line == pos.line) = true)
    (ha : (scope.names.any fun (n, k) => n == y && (k == .local || k == .cell)) = false) : swapsWith (.DictComp kx vx gs scope pos) (some (.Name y py)) l env = pure true := by
  have e1 : env.kindOf y = some .local := hy
  have e2 : env.blockKind = .function := by
    unfold Env.blockKind
    rw [hk]
    rfl
  unfold swapsWith
  simp only [e2, e1, ha, Expr.pos, hl]
  rfl
theorem ps_setDc {i : Nat} {y : Str} {py : Pos} {kx vx tg iter : Expr} {ifs : List Expr} {scope : Scope} {own : List (Str × Nat)} {pos spos : Pos} {wi : TI} {g : TG} {tt : TT} {tk tv : TE} (hc : X.calm = true) (hN : X.N.Nodup) (hy : X.N[i]? = some y) (hyl : X.env.scope.names.lookup y = some .local)
    (hsw : swapsWith (.DictComp kx vx [⟨tg, iter, ifs, 0⟩] scope pos) (some (.Name y py)) spos.line X.env = pure true) (hi : PI X tg iter wi) (ok : BlkOk X.N X.env.scope scope own)
    (hg : ∀ (s : Shared) (H : Hp) (C : Addr) (cl : List (Str × Addr)) (fp : List Addr), PG (X.blk s H scope (compEnvC scope cl C X.env) fp) tg g)
    (ht : ∀ (s : Shared) (H : Hp) (C : Addr) (cl : List (Str × Addr)) (fp : List Addr), PTs (X.blk s H scope (compEnvC scope cl C X.env) fp) ifs tt)
    (hk : ∀ (s : Shared) (H : Hp) (C : Addr) (cl : List (Str × Addr)) (fp : List Addr), PE (X.blk s H scope (compEnvC scope cl C X.env) fp) kx tk)
    (hv : ∀ (s : Shared) (H : Hp) (C : Addr) (cl : List (Str × Addr)) (fp : List Addr), PE (X.blk s H scope (compEnvC scope cl C X.env) fp) vx tv)
    (hs : ∀ x, foldedSetIterable iter X.env x = pure x := by intro _; rfl) :
    PS X (.Assign [.Name y py] (.DictComp kx vx [⟨tg, iter, ifs, 0⟩] scope pos) spos) (tAsg (tDc wi g tt tk tv (own.map (·.2))) (gName i)) := by
  refine ⟨fun pins s σ H D I h => ?_⟩
  rw [exec_Assign_Name_used _ _ _ _ hsw]
  refine wpAny_bind (wpAny_standAt (wpAny_bind ?_))
  show wpAny _ X.A (do let _ ← comprehension (.DictComp kx vx [⟨tg, iter, ifs, 0⟩] scope pos) scope X.env (firstIterPos [⟨tg, iter, ifs, 0⟩] pos) newDict false (eval iter X.env) (some (assign (.Name y py) X.env))) _ _ s
  have h' : tDc wi g tt tk tv (own.map (·.2)) σ H (fun x H1 => gName i x σ H1 D.nx) := h
  have core := dc_core (Qf := fun _ s' => SP X pins D .next s') (pos := pos) (pos' := firstIterPos [⟨tg, iter, ifs, 0⟩] pos) (use := some (assign (.Name y py) X.env)) hc hN I hi ok hg ht hk hv hs h' fun d C s' m H' I' q hn fp => by
    show wpAny _ _ (assign (.Name y py) X.env (.ref d)) _ _ _
    refine wpAny_assign_Name (store_ok2 (v := V.ref d) I' hN hy (.inl hyl) rfl (fun s2 I2 ⟨a, sb, ha⟩ => ?_) (.inr hyl))
    obtain ⟨f0, f1, f2, f3, f4, f5⟩ := fp
    have hCa : C ≠ a := by
      rcases ha with z | z
      · rw [z]
        exact f1
      · exact fun e => f4 y a z e.symm
    exact ⟨m, hn.sameBut sb hCa, fun h3 sb3 => ⟨_, H', I2.turned (t' := s2.toks) (fun b o hb e => (sb3.2 b hb).trans e) f0 f1 f3 f4 f5, q⟩⟩
  exact wpAny_bind (thn core fun _ s' hq => wpAny_pure (wpAny_pure hq))
/-! a for over a list or a tuple, whichever it is -/
theorem seqL_at {K : PySem.W.Frag} {H H' : Hp} {a : Addr} {xs : List V} (e : ∀ u, H a = some u → H' a = some u) (h : SqL K H a xs) : SqL K H' a xs := by
  rcases h with (h | ⟨o, h⟩) | h
  · exact .inl (.inl (e _ h))
  · exact .inl (.inr ⟨o, e _ h⟩)
  · exact .inr h
theorem seqT_at {K : PySem.W.Frag} {H H' : Hp} {a : Addr} {xs : List V} (e : ∀ u, H a = some u → H' a = some u) (h : SqT K H a xs) : SqT K H' a xs := by
  rcases h with (h | ⟨o, h⟩) | h
  · exact .inl (.inl (e _ h))
  · exact .inl (.inr ⟨o, e _ h⟩)
  · exact .inr h
def iSeq (K : PySem.W.Frag) (tl : TE) : TI := fun σ H R => tl σ H fun x H1 => ∃ a xs, x = .ref a ∧ (SqL K H1 a xs ∨ SqT K H1 a xs) ∧ ∀ (J : It) (G : Hp → Prop), (∀ H', (∀ u, H1 a = some u → H' a = some u) → G H') → Walk J xs.length G (YAt xs) → R J H1
theorem pi_seq {tg l : Expr} {tl : TE} (hl : PE X l tl) : PI X tg l (iSeq X.K tl) := by
  refine ⟨fun pins s σ H R I h => thn (hl.run pins s σ H _ I h) fun v s1 ⟨x, H1, I1, r1, q1⟩ => ?_⟩
  obtain ⟨a, xs, ex, hq, q⟩ := q1
  subst ex
  cases r1
  have own : ∀ b ∈ [s1.heap.objs.size], FpOk X pins H1 b := fun b hb => by
    rw [List.mem_singleton.mp hb]
    exact I1.fpOk (Nat.le_refl _) (I1.hok.fresh (Nat.le_refl _))
  rcases hq with hq | hq
  · obtain ⟨its, _, pl, _⟩ := I1.list hq
    exact wpAny_pyIter_list pl.isList ⟨s1.heap.objs.size, [s1.heap.objs.size], _, _, H1, rfl, I1.kept (t' := s1.toks) fun b o e => Heap.get?_push_of_some _ e, turn_list a _, ⟨_, Heap.get?_push_size _ rfl, rfl, rfl⟩, own, q _ _ (fun H' e => seqL_at e hq) walk_list⟩
  · obtain ⟨its, _, pl, _⟩ := I1.tuple hq
    exact wpAny_pyIter_tuple (show s1.heap.IsTuple a its.toArray from pl) ⟨s1.heap.objs.size, [s1.heap.objs.size], _, _, H1, rfl, I1.kept (t' := s1.toks) fun b o e => Heap.get?_push_of_some _ e, turn_tuple a _, ⟨_, Heap.get?_push_size _ rfl, rfl, rfl⟩, own, q _ _ (fun H' e => seqT_at e hq) walk_tup⟩
end
end TCA
namespace TC
open PySem PySem.Spec PyProof.Rows L2 TCA
/-! ### what stands in the heap -/
abbrev Part : Type := Int × Rat
def parV (x : Part) : HO := .tup [.int x.1, .int x.2.num, .int (x.2.den : Int)]
def fraV (q : Rat) : HO := .tup [.int q.num, .int (q.den : Int)]
def Refs (H : Hp) : List Addr → List Part → Prop
  | [], [] => True
  | u :: us, x :: L => H u = some (parV x) ∧ Refs H us L
  | _, _ => False
theorem Refs.same {H H' : Hp} (e : Same H H') : ∀ {us : List Addr} {L : List Part}, Refs H us L → Refs H' us L
  | [], [], _ => trivial
  | u :: us, x :: L, h => ⟨e _ _ h.1, Refs.same e h.2⟩
  | [], _ :: _, h => h.elim
  | _ :: _, [], h => h.elim
theorem Refs.len {H : Hp} : ∀ {us : List Addr} {L : List Part}, Refs H us L → us.length = L.length
  | [], [], _ => rfl
  | u :: us, x :: L, h => congrArg Nat.succ (Refs.len h.2)
  | [], _ :: _, h => h.elim
  | _ :: _, [], h => h.elim
theorem Refs.get {H : Hp} : ∀ {us : List Addr} {L : List Part} {i : Nat} {v : V}, Refs H us L → (us.map V.ref)[i]? = some v → ∃ u x, v = .ref u ∧ us[i]? = some u ∧ L[i]? = some x ∧ H u = some (parV x)
  | [], [], i, v, _, e => by simp at e
  | u :: us, x :: L, 0, v, h, e => ⟨u, x, (Option.some.inj e).symm, rfl, rfl, h.1⟩
  | u :: us, x :: L, i + 1, v, h, e => by
    have e' : (us.map V.ref)[i]? = some v := e
    obtain ⟨u', x', a, b, c, d⟩ := Refs.get h.2 e'
    exact ⟨u', x', a, b, c, d⟩
  | [], _ :: _, _, _, h, _ => h.elim
  | _ :: _, [], _, _, h, _ => h.elim
theorem Refs.snoc {H : Hp} {u : Addr} {x : Part} (hu : H u = some (parV x)) : ∀ {us : List Addr} {L : List Part}, Refs H us L → Refs H (us ++ [u]) (L ++ [x])
  | [], [], _ => ⟨hu, trivial⟩
  | v :: us, y :: L, h => ⟨h.1, Refs.snoc hu h.2⟩
  | [], _ :: _, h => h.elim
  | _ :: _, [], h => h.elim
theorem Refs.all {H : Hp} : ∀ {us : List Addr} {L : List Part}, Refs H us L → ∀ u ∈ us, ∃ x, H u = some (parV x)
  | [], [], _, u, hu => by cases hu
  | v :: us, y :: L, h, u, hu => by
    rcases List.mem_cons.mp hu with e | e
    · rw [e]
      exact ⟨y, h.1⟩
    · exact Refs.all h.2 u e
  | [], _ :: _, h, _, _ => h.elim
  | _ :: _, [], h, _, _ => h.elim
theorem Refs.upd {H : Hp} {l : Addr} {o : HO} (hl : ∀ x, H l ≠ some (parV x)) : ∀ {us : List Addr} {L : List Part}, Refs H us L → Refs (L2.upd H l o) us L
  | [], [], _ => trivial
  | u :: us, x :: L, h => ⟨by
    rw [upd_ne fun e => hl x (by rw [← e]; exact h.1)]
    exact h.1, Refs.upd hl h.2⟩
  | [], _ :: _, h => h.elim
  | _ :: _, [], h => h.elim
def PartsL (H : Hp) (p : Addr) (L : List Part) : Prop := ∃ us, H p = some (.tup (us.map V.ref)) ∧ Refs H us L
theorem PartsL.same {H H' : Hp} {p : Addr} {L : List Part} (e : Same H H') (h : PartsL H p L) : PartsL H' p L := by
  obtain ⟨us, h1, h2⟩ := h
  exact ⟨us, e _ _ h1, h2.same e⟩
def NumAt (C : Addr) (H : Hp) (x : Addr) (L : List Part) : Prop := ∃ dx p, H x = some (.ins C dx [("parts", .ref p)]) ∧ PartsL H p L
theorem NumAt.same {C : Addr} {H H' : Hp} {x : Addr} {L : List Part} (e : Same H H') (h : NumAt C H x L) : NumAt C H' x L := by
  obtain ⟨dx, p, h1, h2⟩ := h
  exact ⟨dx, p, e _ _ h1, h2.same e⟩
/-! ### as data -/
def parD (x : Part) : PyData := .tuple [.int x.1, .int x.2.num, .int (x.2.den : Int)]
def toD (L : List Part) : PyData := .tuple (L.map parD)
theorem Refs.dp {K : PySem.W.Frag} {H : Hp} : ∀ {us : List Addr} {L : List Part}, Refs H us L → DpAll K H (us.map V.ref) (L.map parD)
  | [], [], _ => .nil
  | u :: us, x :: L, h => .cons (.tup (SqT.of h.1) (.cons (.int _) (.cons (.int _) (.cons (.int _) .nil)))) (Refs.dp h.2)
  | [], _ :: _, h => h.elim
  | _ :: _, [], h => h.elim
theorem PartsL.dp {K : PySem.W.Frag} {H : Hp} {p : Addr} {L : List Part} (h : PartsL H p L) : Dp K H (.ref p) (toD L) := by
  obtain ⟨us, h1, h2⟩ := h
  exact .tup (SqT.of h1) h2.dp
theorem toD_shaped (L : List Part) : SeqAt.shaped (toD L) = true := by
  have h1 : ∀ L : List Part, PyData.canLayAll0 (L.map parD) = true := fun L => by
    induction L with
    | nil => rfl
    | cons x L ih =>
      show (PyData.canLay0 (parD x) && PyData.canLayAll0 (L.map parD)) = true
      rw [ih]
      rfl
  have h2 : ∀ L : List Part, PyData.depthAll (L.map parD) ≤ 1 := fun L => by
    induction L with
    | nil => exact Nat.zero_le _
    | cons x L ih =>
      show max (PyData.depth (parD x)) (PyData.depthAll (L.map parD)) ≤ 1
      exact Nat.max_le.mpr ⟨Nat.le_refl 1, ih⟩
  show (PyData.canLayAll0 (L.map parD) && decide (PyData.depthAll (L.map parD) + 1 ≤ 64)) = true
  rw [h1, decide_eq_true (by have := h2 L; omega)]
  rfl
theorem parD_eqv (x y : Part) : PyData.eqv (parD x) (parD y) = decide (x = y) := by
  obtain ⟨r, q⟩ := x
  obtain ⟨s, p⟩ := y
  simp only [parD, PyData.eqv, PyData.eqvAll]
  by_cases h1 : r = s
  · by_cases h2 : q = p
    · subst h1
      subst h2
      simp
    · have h3 : ¬ (q.num = p.num ∧ (q.den : Int) = (p.den : Int)) := fun z => h2 (Rat.ext z.1 (by omega))
      have h4 : ¬ ((r, q) = (s, p)) := fun z => h2 (Prod.ext_iff.mp z).2
      rw [decide_eq_false h4]
      rcases Classical.not_and_iff_not_or_not.mp h3 with z | z
      · simp [z]
      · have z2 : ¬ q.den = p.den := fun w => z (by rw [w])
        simp [z2]
        exact fun _ _ => z
  · have h4 : ¬ ((r, q) = (s, p)) := fun z => h1 (Prod.ext_iff.mp z).1
    rw [decide_eq_false h4]
    simp [h1]
theorem toD_eqv (L M : List Part) : PyData.eqv (toD L) (toD M) = decide (L = M) := by
  show PyData.eqvAll (L.map parD) (M.map parD) = decide (L = M)
  induction L generalizing M with
  | nil =>
    cases M with
    | nil => rfl
    | cons y M => rfl
  | cons x L ih =>
    cases M with
    | nil => rfl
    | cons y M =>
      show (PyData.eqv (parD x) (parD y) && PyData.eqvAll (L.map parD) (M.map parD)) = _
      rw [parD_eqv, ih]
      by_cases h1 : x = y <;> by_cases h2 : L = M <;> simp [h1, h2]
/-! ### dicts from roots to fractions -/
def DictAt (H : Hp) (d : Addr) (ks : List Int) (g : Int → Rat) : Prop := ∃ kvs, H d = some (.dK kvs) ∧ kvs.map (·.1) = ks.map (Sum.inl : Int → Key) ∧
  (∀ r ∈ ks, ∃ u, valV kvs (Sum.inl r : Key) = some (.ref u) ∧ H u = some (fraV (g r))) ∧ ks.Nodup ∧ ∀ r, r ∉ ks → g r = 0
theorem DictAt.same {H H' : Hp} {d : Addr} {ks : List Int} {g : Int → Rat} (e : Same H H') (h : DictAt H d ks g) : DictAt H' d ks g := by
  obtain ⟨kvs, h1, h2, h3, h4⟩ := h
  exact ⟨kvs, e _ _ h1, h2, fun r hr => by
    obtain ⟨u, a, b⟩ := h3 r hr
    exact ⟨u, a, e _ _ b⟩, h4⟩
theorem DictAt.imp {H : Hp} {d : Addr} {ks : List Int} {g g' : Int → Rat} (h : DictAt H d ks g) (e : ∀ r, g r = g' r) : DictAt H d ks g' := by
  have : g = g' := funext e
  rw [← this]
  exact h
def addKey (ks : List Int) (r : Int) : List Int := if r ∈ ks then ks else ks ++ [r]
def setF (g : Int → Rat) (r : Int) (q : Rat) : Int → Rat := fun s => if s = r then q else g s
theorem addKey_len (ks : List Int) (r : Int) : (addKey ks r).length ≤ ks.length + 1 := by
  unfold addKey
  split
  · omega
  · rw [List.length_append, List.length_singleton]
    exact Nat.le_refl _
theorem mem_addKey {ks : List Int} {r s : Int} : s ∈ addKey ks r ↔ s ∈ ks ∨ s = r := by
  unfold addKey
  split
  · rename_i h
    exact ⟨.inl, fun z => z.elim id fun e => e ▸ h⟩
  · simp
theorem inl_ne {a b : Int} (h : a ≠ b) : (Sum.inl a : Key) ≠ Sum.inl b := fun e => h (Sum.inl.inj e)
theorem valV_out {kvs : List (Key × V)} {ks : List Int} {r : Int} (e : kvs.map (·.1) = ks.map (Sum.inl : Int → Key)) (h : r ∉ ks) : valV kvs (Sum.inl r : Key) = none := by
  cases z : valV kvs (Sum.inl r : Key) with
  | none => rfl
  | some v =>
    have m := valV_in z
    rw [e] at m
    obtain ⟨s, hs, es⟩ := List.mem_map.mp m
    exact absurd (Sum.inl.inj es ▸ hs) h
theorem keys_put {kvs : List (Key × V)} {ks : List Int} {r : Int} {v : V} (e : kvs.map (·.1) = ks.map (Sum.inl : Int → Key)) : (putK kvs (Sum.inl r : Key) v).map (·.1) = (addKey ks r).map (Sum.inl : Int → Key) := by
  unfold putK addKey
  by_cases h : r ∈ ks
  · have a : (kvs.any fun kv => decide (kv.1 = (Sum.inl r : Key))) = true := by
      have m : (Sum.inl r : Key) ∈ kvs.map (·.1) := by
        rw [e]
        exact List.mem_map.mpr ⟨r, h, rfl⟩
      obtain ⟨p, hp, ep⟩ := List.mem_map.mp m
      exact List.any_eq_true.mpr ⟨p, hp, decide_eq_true ep⟩
    rw [if_pos a, if_pos h, List.map_map, ← e]
    refine List.map_congr_left fun kv _ => ?_
    show (if kv.1 = (Sum.inl r : Key) then (kv.1, v) else kv).1 = kv.1
    split <;> rfl
  · have a : ¬ (kvs.any fun kv => decide (kv.1 = (Sum.inl r : Key))) = true := by
      rw [valV_any, valV_out e h]
      decide
    rw [if_neg a, if_neg h, List.map_append, List.map_append, e]
    rfl
theorem nd_addKey {ks : List Int} {r : Int} (h : ks.Nodup) : (addKey ks r).Nodup := by
  unfold addKey
  split
  · exact h
  · rename_i z
    rw [List.nodup_append]
    refine ⟨h, by simp, fun a ha b hb => ?_⟩
    rw [List.mem_singleton.mp hb]
    exact fun e => z (e ▸ ha)
theorem put_ok {H : Hp} {d u : Addr} {kvs : List (Key × V)} {ks : List Int} {g : Int → Rat} {r : Int} {q : Rat} (e : H d = some (.dK kvs)) (ek : kvs.map (·.1) = ks.map (Sum.inl : Int → Key))
    (hv : ∀ r ∈ ks, ∃ u, valV kvs (Sum.inl r : Key) = some (.ref u) ∧ H u = some (fraV (g r))) (nd : ks.Nodup) (out : ∀ r, r ∉ ks → g r = 0) (hu : H u = some (fraV q)) :
    DictAt (upd H d (.dK (putK kvs (Sum.inl r : Key) (.ref u)))) d (addKey ks r) (setF g r q) := by
  have nu : ∀ {v : Addr} {p : Rat}, H v = some (fraV p) → v ≠ d := fun {v p} hv z => by
    rw [z, e] at hv
    cases hv
  refine ⟨_, upd_same, keys_put ek, fun s hs => ?_, nd_addKey nd, fun s hs => ?_⟩
  · rw [valV_put]
    by_cases es : s = r
    · subst es
      refine ⟨u, if_pos rfl, ?_⟩
      rw [upd_ne (nu hu)]
      show H u = some (fraV (if s = s then q else g s))
      rw [if_pos rfl]
      exact hu
    · have hs' : s ∈ ks := (mem_addKey.mp hs).resolve_right es
      obtain ⟨v, a, b⟩ := hv s hs'
      refine ⟨v, by rw [if_neg (inl_ne es)]; exact a, ?_⟩
      rw [upd_ne (nu b)]
      show H v = some (fraV (if s = r then q else g s))
      rw [if_neg es]
      exact b
  · have h1 : s ∉ ks := fun z => hs (mem_addKey.mpr (.inl z))
    have h2 : s ≠ r := fun z => hs (mem_addKey.mpr (.inr z))
    show (if s = r then q else g s) = 0
    rw [if_neg h2, out s h1]
theorem dget_in {H : Hp} {d : Addr} {kvs : List (Key × V)} {r : Int} {v : V} (e : H d = some (.dK kvs)) (h : valV kvs (Sum.inl r : Key) = some v) : DGet H d (.int r) (some v) := by
  have z := DGet.k (k := (Sum.inl r : Key)) e
  rw [h] at z
  exact z
theorem dget_out {H : Hp} {d : Addr} {kvs : List (Key × V)} {r : Int} (e : H d = some (.dK kvs)) (h : valV kvs (Sum.inl r : Key) = none) : DGet H d (.int r) none := by
  have z := DGet.k (k := (Sum.inl r : Key)) e
  rw [h] at z
  exact z
theorem len_keys {kvs : List (Key × V)} {ks : List Int} (e : kvs.map (·.1) = ks.map (Sum.inl : Int → Key)) : kvs.length = ks.length := by
  have := congrArg List.length e
  simpa using this
end TC
namespace TC
open PySem PySem.Spec PyProof.Rows L2 TCA
theorem fdiv_nat (m n : Nat) : (m : Int).fdiv (n : Int) = ((m / n : Nat) : Int) := by
  rw [Int.fdiv_eq_ediv_of_nonneg _ (by omega)]
  rfl
theorem cdivn {i : Int} {n B : Nat} (h0 : 0 < n) (h : n < 2 ^ B) (hB : 0 < B) (hB2 : B ≤ 8000) : CDivNW i (n : Int) := ⟨by omega, log_lt (n := B) (by omega) hB (by rw [Int.natAbs_natCast]; exact h)⟩
theorem cmulw {i j : Int} {A B : Nat} (h1 : i.natAbs < 2 ^ A) (h2 : j.natAbs < 2 ^ B) (hA : 0 < A) (hB : 0 < B) (h : A + B ≤ 100000) : CMulW i j := wide_mul h1 h2 hA hB (by omega)
/-- what is asked of the class Exact as the top has made it -/
structure TxtN (K : PySem.W.Frag) (mg : Str → Option Value) (C fI fQ : Addr) : Prop where
  cl : Cls K C
  nP : NoAttr K C "parts"
  mkr : Mk K C fI
  mq : Meth K C "__eq__" fQ
  mgC : mg "Exact" = some (.ref C)
  ne : PySem.W.findIn K (.ref C) "__ne__" = some (some (.builtin "object.__ne__"))
  ca : PySem.W.findIn K (.ref C) "__class__" = some (some (.builtin "object.__class__"))
  cn : PySem.W.specialIn K (.builtin "object.__class__") "__get__" = some (some (.builtin "getset_descriptor.__get__"))
  ct : PySem.W.takesIn K (.builtin "object.__class__") = some true
  cm : PySem.W.mroIn K C (.type "object") = some true
abbrev kwE : List (Str × V) := [("bottom", .int 1), ("root", .int 1)]
abbrev psE : List Str := ["top", "bottom", "root"]
abbrev FnE (K : PySem.W.Frag) (f : Addr) (fd : FuncData) : Prop := FunD K "exact" "exact" (defArgs sExact) (defBody sExact) (defScope sExact) [] kwE f fd
abbrev FnM (K : PySem.W.Frag) (m q : Str) (st : Stmt) (f : Addr) (fd : FuncData) : Prop := FunD K m q (defArgs st) (defBody st) (defScope st) [] [] f fd
/-- the parts of top / bottom times the root of a number with the squares taken out -/
def oneL (r t b : Int) : List Part := if t = 0 then [] else [(r, Rat.divInt t b)]
def exL (t b r : Int) : List Part := oneL (TCM.sqOut r).2.1 (t * (TCM.sqOut r).1) b
def RootOk (r : Int) : Prop := 0 ≤ r ∧ r ≤ 1000000 ∧ (TCM.sqOut r).2.2 = 1 ∧ 0 ≤ (TCM.sqOut r).1 ∧ (TCM.sqOut r).1 ≤ 1000
section
variable {P : Program} {w : World} {K : PySem.W.Frag} {mg : Str → Option Value} {base : Heap} {f : Addr} {fd : FuncData} {C fI fQ : Addr}
theorem TxtN.ty (T : TxtN K mg C fI fQ) {H : Hp} {a dx : Addr} {fs : List (Str × V)} (e : H a = some (.ins C dx fs)) : TyX K H (.ref a) (.ref C) := .base (.ins e T.cl T.ca T.cn T.ct T.cm)
theorem kit_self : PySem.W.kitOne K (.ref C) (.ref C) = some true := by
  show (if ((Value.ref C) == (Value.ref C)) = true then some true else _) = some true
  rw [if_pos (by simp)]
/-! ### sum_in_lowest -/
def spSumLow : Sp := fun vs H Q _ => ∃ (p q : Rat) (A B : Nat), vs = [.int p.num, .int (p.den : Int), .int q.num, .int (q.den : Int)] ∧ TCR.Sz A p ∧ TCR.Sz B q ∧ 0 < A ∧ 0 < B ∧ A + B ≤ 8000 ∧ ∀ c, H c = none → Q (.ref c) (upd H c (fraV (p + q)))
theorem scSumLow : FnScope ["top", "bottom", "other", "below", "common", "found", "left"] ["top", "bottom", "other", "below"] (defScope sSumLow) := ⟨rfl, rfl, rfl, by decide +kernel, rfl, by decide +kernel, by decide +kernel⟩
theorem ok_sumLow {fS : Addr} {fdS : FuncData} (F : FnP K "sum_in_lowest" sSumLow f fd) (GS : FnOk P w K mg base CX0 1 fS fdS ["one", "other"] spShared) (bS : L2.Binds K fdS ["one", "other"] []) (kS : PySem.W.keepIn K (.ref fS) = true) (gS : mg "shared" = some (.ref fS)) :
    FnOk P w K mg base CX0 2 f fd ["top", "bottom", "other", "below"] spSumLow := by
  refine F.ok scSumLow (fun vs H Q E h => ?_) (fun cdv A outer s H vs Q E hr h => ?_)
  · obtain ⟨p, q, A, B, rfl, _⟩ := h
    rfl
  · obtain ⟨p, q, a, b, rfl, zp, zq, a0, b0, ab, k⟩ := h
    refine ⟨_, PSs.nox (pss_cons (ps_set (i := 4) scSumLow.nd rfl (.inl rfl) (pe_call GS hr (by rfl) gS kS bS .nil pass0 (pa_cons (pv 1) (pa_cons (pv 3) pa_nil))))
      (pss_cons (ps_set (i := 5) scSumLow.nd rfl (.inl rfl) (pe_op op_add (pe_op op_mulW (pv 0) (pe_op op_fdivNW (pv 3) (pv 4))) (pe_op op_mulW (pv 2) (pe_op op_fdivNW (pv 1) (pv 4)))))
      (pss_cons (ps_set (i := 6) scSumLow.nd rfl (.inl rfl) (pe_call GS hr (by rfl) gS kS bS .nil pass0 (pa_cons (pv 5) (pa_cons (pv 4) pa_nil))))
      (pss_one (ps_ret (pe_tup (pa_cons (pe_op op_fdivNW (pv 5) (pv 6)) (pa_cons (pe_op op_mulW (pe_op op_fdivNW (pv 1) (pv 4)) (pe_op op_fdivNW (pv 3) (pv 6))) pa_nil)))))))), ?_⟩
    obtain ⟨e1, e2, g0, l0, ga, gb, ln, lb⟩ := TCR.sum_low p q
    have gle : Nat.gcd p.den q.den ≤ p.den := Nat.le_of_dvd p.den_pos ga
    have cg : ∀ i, CDivNW i ((Nat.gcd p.den q.den : Nat) : Int) := fun i => cdivn g0 (Nat.lt_of_le_of_lt gle zp.2) a0 (by omega)
    have qd : ((q.den / Nat.gcd p.den q.den : Nat) : Int).natAbs < 2 ^ b := by
      rw [Int.natAbs_natCast]
      exact Nat.lt_of_le_of_lt (Nat.div_le_self ..) zq.2
    have pd : ((p.den / Nat.gcd p.den q.den : Nat) : Int).natAbs < 2 ^ a := by
      rw [Int.natAbs_natCast]
      exact Nat.lt_of_le_of_lt (Nat.div_le_self ..) zp.2
    refine ⟨_, rfl, _, rfl, (p.den : Int), (q.den : Int), rfl, ?_⟩
    show tSeq _ _ _ [some (V.int p.num), some (V.int (p.den : Int)), some (V.int q.num), some (V.int (q.den : Int)), some (V.int ((Nat.gcd p.den q.den : Nat) : Int)), none, none] H
    refine ⟨_, rfl, _, rfl, _, rfl, (q.den : Int), _, rfl, rfl, cg _, p.num, _, rfl, rfl, ?_, ?_⟩
    · rw [fdiv_nat]
      exact cmulw zp.1 qd a0 b0 (by omega)
    refine ⟨_, rfl, _, rfl, _, rfl, (p.den : Int), _, rfl, rfl, cg _, q.num, _, rfl, rfl, ?_, _, _, rfl, rfl, ?_⟩
    · rw [fdiv_nat]
      exact cmulw zq.1 pd b0 a0 (by omega)
    rw [fdiv_nat, fdiv_nat]
    show tSeq _ _ _ [some (V.int p.num), some (V.int (p.den : Int)), some (V.int q.num), some (V.int (q.den : Int)), some (V.int ((Nat.gcd p.den q.den : Nat) : Int)), some (V.int (p.num * ((q.den / Nat.gcd p.den q.den : Nat) : Int) + q.num * ((p.den / Nat.gcd p.den q.den : Nat) : Int))), none] H
    generalize hnum : p.num * ((q.den / Nat.gcd p.den q.den : Nat) : Int) + q.num * ((p.den / Nat.gcd p.den q.den : Nat) : Int) = num at e1 e2 l0 ln lb ⊢
    refine ⟨_, rfl, _, rfl, num, ((Nat.gcd p.den q.den : Nat) : Int), rfl, ?_⟩
    rw [show Int.gcd num ((Nat.gcd p.den q.den : Nat) : Int) = Nat.gcd num.natAbs (Nat.gcd p.den q.den) from rfl]
    generalize hl : Nat.gcd num.natAbs (Nat.gcd p.den q.den) = l at e1 e2 l0 ln lb ⊢
    have ll : l ≤ q.den := Nat.le_of_dvd q.den_pos lb
    have cl : ∀ i, CDivNW i ((l : Nat) : Int) := fun i => cdivn l0 (Nat.lt_of_le_of_lt ll zq.2) b0 (by omega)
    refine ⟨_, rfl, _, rfl, num, _, rfl, rfl, cl _, _, rfl, _, rfl, (p.den : Int), _, rfl, rfl, cg _, _, rfl, _, rfl, (q.den : Int), _, rfl, rfl, cl _, _, _, rfl, rfl, ?_, by show 2 ≤ sizeLine; decide, fun c hc => ?_⟩
    · rw [fdiv_nat, fdiv_nat]
      exact cmulw pd (by rw [Int.natAbs_natCast]; exact Nat.lt_of_le_of_lt (Nat.div_le_self ..) zq.2) a0 b0 (by omega)
    · have z := k c hc
      have ef : fraV (p + q) = .tup [.int (num.fdiv (l : Int)), .int ((p.den : Int).fdiv ((Nat.gcd p.den q.den : Nat) : Int) * (q.den : Int).fdiv (l : Int))] := by
        unfold fraV
        rw [e1, e2, fdiv_nat, fdiv_nat, Int.fdiv_eq_ediv_of_nonneg _ (by omega)]
        rfl
      rw [ef] at z
      exact z
/-! ### __init__ -/
def spInit (C : Addr) : Sp := fun vs H Q _ => ∃ (x dx : Addr) (v : V), vs = [.ref x, v] ∧ H x = some (.ins C dx []) ∧ Q .non (upd H x (.ins C dx [("parts", v)]))
theorem scInit : FnScope ["self", "parts"] ["self", "parts"] (defScope sInit) := ⟨rfl, rfl, rfl, by decide +kernel, rfl, by decide +kernel, by decide +kernel⟩
theorem ok_init (F : FnM K "__init__" "Exact.__init__" sInit f fd) (T : TxtN K mg C fI fQ) : FnOk P w K mg base CX0 1 f fd ["self", "parts"] (spInit C) := by
  refine F.ok scInit (fun vs H Q E h => ?_) (fun cdv A outer s H vs Q E hr h => ?_)
  · obtain ⟨x, dx, v, rfl, _⟩ := h
    rfl
  · obtain ⟨x, dx, v, rfl, hx, q⟩ := h
    refine ⟨_, PSs.nox (pss_one (ps_fld (pv 0) (pv 1) rfl)), ?_⟩
    exact ⟨_, rfl, _, rfl, x, C, dx, [], rfl, hx, T.cl, T.nP, (by show 0 < 1000; decide), q⟩
/-- Exact(p) behind its making -/
theorem made_num {H : Hp} {p : Addr} {L : List Part} {Q : VK} (hp : PartsL H p L) (q : ∀ x H', Same H H' → H x = none → NumAt C H' x L → Q (.ref x) H') :
    ∀ x dx, H x = none → H dx = none → dx ≠ x → spInit C (.ref x :: ([.ref p] ++ [])) (upd (upd H dx (.own x)) x (.ins C dx [])) (fun v H2 => v = .non ∧ Q (.ref x) H2) E0 := by
  intro x dx hx hdx hne
  refine ⟨x, dx, .ref p, rfl, upd_same, rfl, ?_⟩
  have smx : Same H (upd (upd (upd H dx (.own x)) x (.ins C dx [])) x (.ins C dx [("parts", .ref p)])) := fun b o e => by
    rw [upd_ne (ne_of_none e hx), upd_ne (ne_of_none e hx), upd_ne (ne_of_none e hdx)]
    exact e
  exact q x _ smx hx ⟨dx, p, upd_same, hp.same smx⟩
/-! ### __eq__ -/
def spEqN (C : Addr) : Sp := fun vs H Q _ => ∃ (x y : Addr) (L M : List Part), vs = [.ref x, .ref y] ∧ NumAt C H x L ∧ NumAt C H y M ∧ Q (.bl (decide (L = M))) H
theorem scEq : FnScope ["self", "other"] ["self", "other"] (defScope sEq) := ⟨rfl, rfl, rfl, by decide +kernel, rfl, by decide +kernel, by decide +kernel⟩
theorem ok_eq (F : FnM K "__eq__" "Exact.__eq__" sEq f fd) (T : TxtN K mg C fI fQ) (gI : mg "isinstance" = none) : FnOk P w K mg base CX0 1 f fd ["self", "other"] (spEqN C) := by
  refine F.ok scEq (fun vs H Q E h => ?_) (fun cdv A outer s H vs Q E hr h => ?_)
  · obtain ⟨x, y, L, M, rfl, _⟩ := h
    rfl
  · obtain ⟨x, y, L, M, rfl, ⟨dx, p, hx, hp⟩, ⟨dy, p', hy, hp'⟩, q⟩ := h
    have hu : (A.deeper (envOfC "Exact.__eq__" (defScope sEq) s.heap.objs.size f cdv)).units + 64 < cLine := by
      have := hr.un
      omega
    refine ⟨_, PSs.nox (pss_one (ps_ret (pe_and (pe_callB call_isi (by rfl) gI (by decide +kernel) (pa_cons (pv 1) (pa_cons (pe_glob (v := .ref C) (by rfl) T.mgC rfl) pa_nil)))
      (pe_one (pe_cmpR (op_eqD hu) (pe_fld (pv 0) rfl) (pe_fld (pv 1) rfl) (nomark _)))))), ?_⟩
    refine ⟨_, rfl, _, _, _, _, true, rfl, .own C, T.ty hy, kit_self, true, rfl, iteT ?_⟩
    refine ⟨_, rfl, x, C, dx, _, _, rfl, hx, T.cl, T.nP, rfl, _, rfl, y, C, dy, _, _, rfl, hy, T.cl, T.nP, rfl, toD L, toD M, hp.dp, hp'.dp, toD_shaped L, toD_shaped M, ?_⟩
    rw [toD_eqv]
    exact q
/-! ### need_exact -/
def spNeed (C : Addr) : Sp := fun vs H Q _ => ∃ (x : Addr) (L : List Part), vs = [.ref x] ∧ NumAt C H x L ∧ Q .non H
theorem scNeed : FnScope ["thing"] ["thing"] (defScope sNeed) := ⟨rfl, rfl, rfl, by decide +kernel, rfl, by decide +kernel, by decide +kernel⟩
theorem ok_need (F : FnP K "need_exact" sNeed f fd) (T : TxtN K mg C fI fQ) (gI : mg "isinstance" = none) : FnOk P w K mg base CX0 1 f fd ["thing"] (spNeed C) := by
  refine F.ok scNeed (fun vs H Q E h => ?_) (fun cdv A outer s H vs Q E hr h => ?_)
  · obtain ⟨x, L, rfl, _⟩ := h
    rfl
  · obtain ⟨x, L, rfl, ⟨dx, p, hx, hp⟩, q⟩ := h
    refine ⟨_, PSs.nox (pss_one (ps_if (pt_not (pt_val (pe_callB call_isi (by rfl) gI (by decide +kernel) (pa_cons (pv 0) (pa_cons (pe_glob (v := .ref C) (by rfl) T.mgC rfl) pa_nil))))) pss_never pss_nil)), ?_⟩
    exact ⟨_, rfl, _, _, _, _, true, rfl, .own C, T.ty hx, kit_self, true, rfl, iteF q⟩
/-! ### lowered, of one root -/
end
end TC
namespace TC
open PySem PySem.Spec PyProof.Rows L2 TCA
theorem same_at {H H1 : Hp} {d : Addr} {o : HO} (s : Same H H1) (h : H d = none) : Same H (upd H1 d o) := fun b x e => by
  rw [upd_ne (ne_of_none e h)]
  exact s _ _ e
theorem rfst (x : Part) : parV x = .tup [.int x.1, .int x.2.num, .int (x.2.den : Int)] := rfl
section
variable {P : Program} {w : World} {K : PySem.W.Frag} {mg : Str → Option Value} {base : Heap} {f : Addr} {fd : FuncData} {C fI fQ : Addr}
/-! ### merged -/
def spMerged : Sp := fun vs H Q _ => ∃ (a o : Addr) (L M : List Part) (us : List Addr) (A B : Nat), vs = [.ref a, .ref o] ∧ PartsL H a L ∧ TCR.Canon L ∧ (H o = some (.tup (us.map V.ref)) ∨ H o = some (.lst (us.map V.ref))) ∧ Refs H us M ∧ TCR.Canon M ∧
  (∀ x ∈ L, TCR.Sz A x.2) ∧ (∀ x ∈ M, TCR.Sz B x.2) ∧ 0 < A ∧ 0 < B ∧ A + B ≤ 7000 ∧ L.length + M.length ≤ 60 ∧
  ∀ p N H', Same H H' → H p = none → PartsL H' p N → TCR.Canon N → (∀ r, TCR.val N r = TCR.val L r + TCR.val M r) → N.length ≤ L.length + M.length → Q (.ref p) H'
theorem scMerged : FnScope ["parts", "others", "root", "top", "bottom", "fractions", "first", "below", "kept"] ["parts", "others"] (defScope sMerged) := ⟨rfl, rfl, rfl, by decide +kernel, rfl, by decide +kernel, by decide +kernel⟩
theorem ok_merged {fS : Addr} {fdS : FuncData} (F : FnP K "merged" sMerged f fd) (GS : FnOk P w K mg base CX0 2 fS fdS ["top", "bottom", "other", "below"] spSumLow) (bS : L2.Binds K fdS ["top", "bottom", "other", "below"] []) (kS : PySem.W.keepIn K (.ref fS) = true) (gS : mg "sum_in_lowest" = some (.ref fS))
    (gs : mg "sorted" = none) (gl : mg "list" = none) (gt : mg "tuple" = none) : FnOk P w K mg base CX0 3 f fd ["parts", "others"] spMerged := by
  refine F.ok scMerged (fun vs H Q E h => ?_) (fun cdv Ar outer s H vs Q E hr h => ?_)
  · obtain ⟨a, o, L, M, us, A, B, rfl, _⟩ := h
    rfl
  · obtain ⟨a, o, L, M, us, A, B, rfl, ⟨ul, ha, hL⟩, cL, ho, hM, cM, zL, zM, A0, B0, AB, len, q⟩ := h
    have hu := hu_of hr
    refine ⟨_, PSs.nox (pss_cons (ps_setDc (own := [("root", 2), ("top", 3), ("bottom", 4)]) (g := gTup K 3 (gCons (gName 2) (gCons (gName 3) (gCons (gName 4) gNil)))) (tt := tYes) (i := 5) rfl scMerged.nd rfl rfl (sw_dict rfl rfl rfl (by decide +kernel)) (pi_tup (pv 0))
          (blkOk_by (N := ["parts", "others", "root", "top", "bottom", "fractions", "first", "below", "kept"]) (sc := defScope sMerged) (by decide +kernel))
          (fun _ _ _ _ _ => pg_tup rfl (pgs_cons (pg_name (i := 2) scMerged.nd rfl (.inl rfl)) (pgs_cons (pg_name (i := 3) scMerged.nd rfl (.inl rfl)) (pgs_cons (pg_name (i := 4) scMerged.nd rfl (.inl rfl)) pgs_nil)))) (fun _ _ _ _ _ => pts_nil) (fun _ _ _ _ _ => pv 2) (fun _ _ _ _ _ => pe_tup (pa_cons (pv 3) (pa_cons (pv 4) pa_nil))))
      (pss_cons (ps_for PassesOwn.never rfl (pi_seq (pv 1)) (pg_tup rfl (pgs_cons (pg_name (i := 2) scMerged.nd rfl (.inl rfl)) (pgs_cons (pg_name (i := 3) scMerged.nd rfl (.inl rfl)) (pgs_cons (pg_name (i := 4) scMerged.nd rfl (.inl rfl)) pgs_nil))))
        (pss_one (ps_if (pt_cmp (pc_din hu (pv 2) (pv 5)))
          (pss_cons (ps_asg (pe_dget hu (pv 5) (pv 2) (fun _ _ => rfl)) (pg_tup rfl (pgs_cons (pg_name (i := 6) scMerged.nd rfl (.inl rfl)) (pgs_cons (pg_name (i := 7) scMerged.nd rfl (.inl rfl)) pgs_nil))))
            (pss_one (ps_dput hu (pv 5) (pv 2) (pe_call GS hr (by rfl) gS kS bS .nil pass0 (pa_cons (pv 6) (pa_cons (pv 7) (pa_cons (pv 3) (pa_cons (pv 4) pa_nil))))) rfl)))
          (pss_one (ps_dput hu (pv 5) (pv 2) (pe_tup (pa_cons (pv 3) (pa_cons (pv 4) pa_nil))) rfl)))))
      (pss_cons (ps_set (i := 8) scMerged.nd rfl (.inl rfl) (pe_lst pa_nil))
      (pss_cons (ps_for PassesOwn.never rfl (pi_list (pe_callB cr_sorted (by rfl) gs (by decide +kernel) (pa_cons (pe_callTy (call_listD rfl) (by rfl) gl (by decide +kernel) (pa_cons (pv 5) pa_nil)) pa_nil))) (pg_name (i := 2) scMerged.nd rfl (.inl rfl))
        (pss_cons (ps_asg (pe_dget hu (pv 5) (pv 2) (fun _ _ => rfl)) (pg_tup rfl (pgs_cons (pg_name (i := 3) scMerged.nd rfl (.inl rfl)) (pgs_cons (pg_name (i := 4) scMerged.nd rfl (.inl rfl)) pgs_nil))))
          (pss_one (ps_if (pt_cmpR op_ne (pv 3) pe_int (nomark _)) (pss_one (ps_expr (pe_bm PySem.F.plainAttrs_list PySem.F.slot_list_append PySem.F.type_list_append mt_append (pv 8) (pa_cons (pe_tup (pa_cons (pv 2) (pa_cons (pv 3) (pa_cons (pv 4) pa_nil)))) pa_nil)))) pss_nil))))
      (pss_one (ps_ret (pe_callTy call_tuple_of (by rfl) gt (by decide +kernel) (pa_cons (pv 8) pa_nil)))))))), ?_⟩
    -- fractions
    refine ⟨_, rfl, a, rfl, ⟨_, SqT.of ha⟩, fun D hD => dc_tup (xs := ul.map V.ref) (fun i H' => Same H H' ∧ ∃ ks, DictAt H' D ks (TCR.val (L.take i)) ∧ ks.length ≤ i) ?_ (fun i H' _ hP => SqT.of (hP.1 _ _ ha)) (fun i x H' hx hP => ?_) (fun H' hP => ?_)⟩
    · exact ⟨same_upd hD, [], ⟨[], upd_same, rfl, (fun r hr => by cases hr), List.nodup_nil, fun _ _ => rfl⟩, Nat.le_refl _⟩
    · obtain ⟨sm, ks, hD', lk⟩ := hP
      obtain ⟨u, y, rfl, hu', hy, hyv⟩ := (hL.same sm).get hx
      have il : i < L.length := (List.getElem?_eq_some_iff.mp hy).1
      refine ⟨u, _, rfl, SqT.of hyv, rfl, _, _, rfl, _, _, rfl, _, _, rfl, rfl, rfl, ?_⟩
      refine ⟨_, rfl, _, rfl, _, rfl, by show 2 ≤ sizeLine; decide, fun c hc => ?_⟩
      have smc := same_upd (o := fraV y.2) hc
      obtain ⟨kvs, e1, e2, e3, e4, e5⟩ := hD'.same smc
      refine ⟨kvs, Sum.inl y.1, rfl, e1, small1000 (by rw [len_keys e2]; omega), same_at (sm.trans smc) hD, addKey ks y.1, ?_, ?_⟩
      · refine (put_ok (r := y.1) (q := y.2) e1 e2 e3 e4 e5 upd_same).imp fun s => ?_
        exact (TCR.val_take cL s hy).2.symm
      · exact Nat.le_trans (addKey_len ks y.1) (by omega)
    obtain ⟨sm1, ks1, hD1, lk1⟩ := hP
    rw [List.length_map, hL.len, List.take_length] at hD1
    rw [List.length_map, hL.len] at lk1
    -- others
    refine ⟨_, rfl, o, us.map V.ref, rfl, ?_, fun J G hG wk => ?_⟩
    · rcases ho with ho | ho
      · exact .inr (SqT.of (sm1 _ _ ho))
      · exact .inl (SqL.of (sm1 _ _ ho))
    refine for_it wk (fun i σ H2 => ∃ (v2 v3 v4 v6 v7 : Option V) (ks : List Int), σ = [some (.ref a), some (.ref o), v2, v3, v4, some (.ref D), v6, v7, none] ∧ Same H H2 ∧ DictAt H2 D ks (fun r => TCR.val L r + TCR.val (M.take i) r) ∧ ks.length ≤ L.length + i)
      ⟨none, none, none, none, none, ks1, rfl, sm1, hD1.imp fun r => by show TCR.val L r = TCR.val L r + 0; grind, lk1⟩ (fun i σ H2 _ hP => ?_) (fun i x σ H2 H3 hi hP hy => ?_) (fun σ H2 hP => ?_)
    · obtain ⟨_, _, _, _, _, _, _, sm, _⟩ := hP
      refine hG H2 fun u eu => ?_
      rcases ho with ho | ho
      · rw [sm1 _ _ ho] at eu
        rw [← eu]
        exact sm _ _ ho
      · rw [sm1 _ _ ho] at eu
        rw [← eu]
        exact sm _ _ ho
    · obtain ⟨rfl, hx⟩ := hy
      obtain ⟨v2, v3, v4, v6, v7, ks, rfl, sm, hD2, lk⟩ := hP
      obtain ⟨u, y, rfl, hu', hy, hyv⟩ := (hM.same sm).get hx
      have il : i < M.length := (List.getElem?_eq_some_iff.mp hy).1
      have t0 := (TCR.val_take cM y.1 hy).1
      have t1 := fun s => (TCR.val_take cM s hy).2
      refine ⟨u, _, rfl, SqT.of hyv, rfl, _, _, rfl, _, _, rfl, _, _, rfl, rfl, ?_⟩
      obtain ⟨kvs, e1, e2, e3, e4, e5⟩ := id hD2
      by_cases hk : y.1 ∈ ks
      · obtain ⟨u1, f1, f2⟩ := e3 y.1 hk
        refine ⟨_, rfl, _, rfl, D, _, rfl, dget_in e1 f1, _, rfl, iteT ?_⟩
        refine ⟨_, rfl, _, rfl, D, _, rfl, dget_in e1 f1, u1, _, rfl, SqT.of f2, rfl, _, _, rfl, _, _, rfl, rfl, ?_⟩
        have zg : TCR.Sz A (TCR.val L y.1 + TCR.val (M.take i) y.1) := by
          rw [t0]
          have z := TCR.Sz.val A0 zL y.1
          have e : TCR.val L y.1 + 0 = TCR.val L y.1 := by grind
          rw [e]
          exact z
        refine ⟨_, rfl, _, rfl, _, rfl, _, rfl, _, y.2, A, B, rfl, zg, zM y (List.mem_of_getElem? hy), A0, B0, by omega, fun c hc => ?_⟩
        have smc := same_upd (o := fraV (TCR.val L y.1 + TCR.val (M.take i) y.1 + y.2)) hc
        obtain ⟨kvs', e1', e2', e3', e4', e5'⟩ := hD2.same smc
        refine ⟨_, rfl, _, rfl, D, _, rfl, DPut.k (k := Sum.inl y.1) e1' (small1000 (by rw [len_keys e2']; omega)), ?_⟩
        refine ⟨_, _, _, _, _, addKey ks y.1, rfl, same_at (sm.trans smc) hD, ?_, ?_⟩
        · refine (put_ok (r := y.1) e1' e2' e3' e4' e5' upd_same).imp fun s => ?_
          rw [t1 s]
          unfold setF
          by_cases es : s = y.1
          · rw [if_pos es, if_pos es, es, t0]
            grind
          · rw [if_neg es, if_neg es]
        · exact Nat.le_trans (addKey_len ks y.1) (by omega)
      · refine ⟨_, rfl, _, rfl, D, _, rfl, dget_out e1 (valV_out e2 hk), _, rfl, iteF ?_⟩
        refine ⟨_, rfl, _, rfl, by show 2 ≤ sizeLine; decide, fun c hc => ?_⟩
        have smc := same_upd (o := fraV y.2) hc
        obtain ⟨kvs', e1', e2', e3', e4', e5'⟩ := hD2.same smc
        refine ⟨_, rfl, _, rfl, D, _, rfl, DPut.k (k := Sum.inl y.1) e1' (small1000 (by rw [len_keys e2']; omega)), ?_⟩
        refine ⟨_, _, _, _, _, addKey ks y.1, rfl, same_at (sm.trans smc) hD, ?_, ?_⟩
        · refine (put_ok (r := y.1) (q := y.2) e1' e2' e3' e4' e5' upd_same).imp fun s => ?_
          rw [t1 s]
          unfold setF
          by_cases es : s = y.1
          · have z : TCR.val L y.1 + TCR.val (M.take i) y.1 = 0 := e5 y.1 hk
            rw [if_pos es, if_pos es, es]
            rw [t0] at z
            grind
          · rw [if_neg es, if_neg es]
        · exact Nat.le_trans (addKey_len ks y.1) (by omega)
    obtain ⟨v2, v3, v4, v6, v7, ks, rfl, sm2, hD2, lk⟩ := hP
    rw [List.length_map, hM.len, List.take_length] at hD2
    rw [List.length_map, hM.len] at lk
    generalize hg : (fun r => TCR.val L r + TCR.val M r) = g at hD2
    have hgv : ∀ r, g r = TCR.val L r + TCR.val M r := fun r => by rw [← hg]
    -- kept
    refine ⟨Nat.zero_le _, fun l hl => ?_⟩
    have sm3 := same_upd (o := .lst []) hl
    obtain ⟨kvs, e1, e2, e3, e4, e5⟩ := hD2.same sm3
    have elist : kvs.map (fun kv => kV kv.1) = ks.map V.int := by
      have z := congrArg (List.map kV) e2
      rw [List.map_map, List.map_map] at z
      exact z
    refine ⟨_, rfl, D, kvs, rfl, .inl e1, fun l2 hl2 => ?_⟩
    rw [elist]
    have sm4 := same_upd (o := .lst (ks.map V.int)) hl2
    refine ⟨l2, ks, rfl, SqL.of upd_same, by omega, fun ns l3 hperm hsort hl3 => ?_⟩
    have sm5 := same_upd (o := .lst (ns.map V.int)) hl3
    have ndn : ns.Nodup := hperm.nodup_iff.mpr e4
    have nl3 : l ≠ l3 := ne_of_none (sm4 l _ (upd_same (H := H2))) hl3
    have nDl : D ≠ l := by
      obtain ⟨_, z, _⟩ := hD2
      exact ne_of_none z hl
    have smA := sm2.trans (sm3.trans (sm4.trans sm5))
    have nHl : H l = none := sm2.free hl
    have nHl3 : H l3 = none := (sm2.trans (sm3.trans sm4)).free hl3
    refine ⟨l3, rfl, ⟨_, SqL.of upd_same⟩, for_list (xs := ns.map V.int) (fun i σ H' => ∃ (w2 w3 w4 : Option V) (vs : List Addr), σ = [some (.ref a), some (.ref o), w2, w3, w4, some (.ref D), v6, v7, some (.ref l)] ∧ Same H H' ∧ H' l = some (.lst (vs.map V.ref)) ∧ H' l3 = some (.lst (ns.map V.int)) ∧ DictAt H' D ks g ∧ Refs H' vs (TCR.kept g (ns.take i)))
      ⟨v2, v3, v4, [], rfl, smA, sm5 _ _ (sm4 _ _ upd_same), upd_same, hD2.same (sm3.trans (sm4.trans sm5)), trivial⟩ (fun i σ H' _ hP => ?_) (fun i x σ H' hx hP => ?_) (fun σ H' hP => ?_)⟩
    · obtain ⟨_, _, _, _, _, _, _, z, _⟩ := hP
      exact SqL.of z
    · obtain ⟨w2, w3, w4, vs, rfl, sm, el, el3, hD3, hR⟩ := hP
      rw [List.getElem?_map] at hx
      obtain ⟨r, hr', rfl⟩ : ∃ r, ns[i]? = some r ∧ V.int r = x := by
        cases e : ns[i]? with
        | none =>
          rw [e] at hx
          cases hx
        | some p =>
          rw [e] at hx
          exact ⟨p, rfl, Option.some.inj hx⟩
      have rk : r ∈ ks := hperm.mem_iff.mp (List.mem_of_getElem? hr')
      have etake : ns.take (i + 1) = ns.take i ++ [r] := by
        rw [List.take_add_one, hr']
        rfl
      obtain ⟨kvs3, d1, d2, d3, d4, d5⟩ := id hD3
      obtain ⟨u1, f1, f2⟩ := d3 r rk
      refine ⟨_, rfl, _, rfl, D, _, rfl, dget_in d1 f1, u1, _, rfl, SqT.of f2, rfl, _, _, rfl, _, _, rfl, rfl, ?_⟩
      refine ⟨_, rfl, rfl, _, rfl, ?_⟩
      by_cases hz : g r = 0
      · have hn0 : (g r).num = 0 := by rw [hz]; rfl
        refine iteNS (congrArg V.int hn0) ?_
        refine ⟨_, _, _, vs, rfl, sm, el, el3, hD3, ?_⟩
        rw [etake, TCR.kept_snoc, if_neg (by simpa using hz), List.append_nil]
        exact hR
      · have hn0 : (g r).num ≠ 0 := fun e => hz (Rat.num_eq_zero.mp e)
        refine iteNT (ine hn0) ?_
        refine ⟨_, rfl, .inl ⟨rfl, _, SqL.of el⟩, _, rfl, _, rfl, _, rfl, by show 3 ≤ sizeLine; decide, fun c hc => ?_⟩
        have smc := same_upd (o := parV (r, g r)) hc
        have vlen : vs.length ≤ 60 := by
          have z1 := hR.len
          have z2 := TCR.kept_len g (ns.take i)
          have z3 : (ns.take i).length ≤ ns.length := by
            rw [List.length_take]
            exact Nat.min_le_right ..
          have z4 := hperm.length_eq
          omega
        have ncl : c ≠ l := (ne_of_none el hc).symm
        refine ⟨l, _, _, rfl, rfl, smc _ _ el, small1000 (by rw [List.length_map]; omega), ?_⟩
        have hl' : ∀ x, (upd H' c (parV (r, g r))) l ≠ some (parV x) := fun x e => by
          rw [smc _ _ el] at e
          cases e
        refine ⟨_, _, _, vs ++ [c], rfl, same_at (sm.trans smc) nHl, ?_, ?_, ?_, ?_⟩
        · rw [upd_same, List.map_append]
          rfl
        · rw [upd_ne nl3.symm]
          exact smc _ _ el3
        · obtain ⟨kvs4, g1, g2, g3, g4, g5⟩ := hD3.same smc
          refine ⟨kvs4, ?_, g2, fun s hs => ?_, g4, g5⟩
          · rw [upd_ne nDl]
            exact g1
          · obtain ⟨u2, k1, k2⟩ := g3 s hs
            refine ⟨u2, k1, ?_⟩
            rw [upd_ne fun e => by
              rw [e, smc _ _ el] at k2
              cases k2]
            exact k2
        · rw [etake, TCR.kept_snoc, if_pos (by simpa using hz)]
          refine Refs.upd hl' (Refs.snoc upd_same (hR.same smc))
    · obtain ⟨w2, w3, w4, vs, rfl, sm, el, el3, hD3, hR⟩ := hP
      rw [List.length_map, List.take_length] at hR
      refine ⟨_, rfl, l, _, rfl, .inl ⟨SqL.of el, fun p hp => ?_⟩⟩
      have smp := same_upd (o := .tup (vs.map V.ref)) hp
      refine q p (TCR.kept g ns) _ (sm.trans smp) (sm.free hp) ⟨vs, upd_same, hR.same smp⟩ (TCR.canon_kept g ndn hsort) (fun r => ?_) ?_
      · rw [TCR.val_kept g r fun z => e5 r fun m => z (hperm.mem_iff.mpr m), hgv]
      · have z2 := TCR.kept_len g ns
        have z4 := hperm.length_eq
        omega
end
end TC
namespace TC
open PySem PySem.Spec PyProof.Rows L2 TCA
def Good (A : Nat) (L : List Part) : Prop := TCR.Canon L ∧ ∀ x ∈ L, TCR.Sz A x.2
theorem good_of {N : List Part} {A : Nat} (c : TCR.Canon N) (h : ∀ r, TCR.Sz A (TCR.val N r)) : Good A N := ⟨c, fun x hx => by
  rw [← c.mem hx]
  exact h _⟩
theorem Good.val {N : List Part} {A : Nat} (h : Good A N) (h0 : 0 < A) (r : Int) : TCR.Sz A (TCR.val N r) := TCR.Sz.val h0 h.2 r
theorem Good.mono {N : List Part} {A B : Nat} (h : Good A N) (l : A ≤ B) : Good B N := ⟨h.1, fun x hx => (h.2 x hx).mono l⟩
theorem Good.nil {A : Nat} : Good A [] := ⟨TCR.canon_nil, fun x hx => by cases hx⟩
theorem negL_len (L : List Part) : (TCR.negL L).length = L.length := List.length_map ..
theorem negL_snoc (L : List Part) (x : Part) : TCR.negL (L ++ [x]) = TCR.negL L ++ [(x.1, -x.2)] := List.map_append ..
section
variable {P : Program} {w : World} {K : PySem.W.Frag} {mg : Str → Option Value} {base : Heap} {f : Addr} {fd : FuncData} {C fI fQ : Addr}
/-! ### plus, minus -/
def spPlus (C : Addr) : Sp := fun vs H Q _ => ∃ (x y : Addr) (L M : List Part) (A B : Nat), vs = [.ref x, .ref y] ∧ NumAt C H x L ∧ NumAt C H y M ∧ Good A L ∧ Good B M ∧ 0 < A ∧ 0 < B ∧ A + B ≤ 7000 ∧ L.length + M.length ≤ 60 ∧
  ∀ z N H', Same H H' → H z = none → NumAt C H' z N → Good (A + B + 1) N → (∀ r, TCR.val N r = TCR.val L r + TCR.val M r) → N.length ≤ L.length + M.length → Q (.ref z) H'
theorem scPlus : FnScope ["one", "other"] ["one", "other"] (defScope sPlus) := ⟨rfl, rfl, rfl, by decide +kernel, rfl, by decide +kernel, by decide +kernel⟩
theorem ok_plus {fN fM : Addr} {fdN fdM fdI : FuncData} (F : FnP K "plus" sPlus f fd) (T : TxtN K mg C fI fQ) (GN : FnOk P w K mg base CX0 1 fN fdN ["thing"] (spNeed C)) (bN : L2.Binds K fdN ["thing"] []) (kN : PySem.W.keepIn K (.ref fN) = true) (gN : mg "need_exact" = some (.ref fN))
    (GM : FnOk P w K mg base CX0 3 fM fdM ["parts", "others"] spMerged) (bM : L2.Binds K fdM ["parts", "others"] []) (kM : PySem.W.keepIn K (.ref fM) = true) (gM : mg "merged" = some (.ref fM))
    (GI : FnOk P w K mg base CX0 1 fI fdI ["self", "parts"] (spInit C)) (bI : L2.Binds K fdI ["self", "parts"] []) : FnOk P w K mg base CX0 4 f fd ["one", "other"] (spPlus C) := by
  refine F.ok scPlus (fun vs H Q E h => ?_) (fun cdv Ar outer s H vs Q E hr h => ?_)
  · obtain ⟨x, y, L, M, A, B, rfl, _⟩ := h
    rfl
  · obtain ⟨x, y, L, M, A, B, rfl, hx, hy, gL, gMm, A0, B0, AB, len, q⟩ := h
    have hr1 := hr.mono (j := 1) (by decide)
    refine ⟨_, PSs.nox (pss_cons (ps_expr (pe_call GN hr1 (by rfl) gN kN bN .nil pass0 (pa_cons (pv 0) pa_nil)))
      (pss_cons (ps_expr (pe_call GN hr1 (by rfl) gN kN bN .nil pass0 (pa_cons (pv 1) pa_nil)))
      (pss_one (ps_ret (pe_make T.mkr GI (hr.mono (by decide)) (by rfl) T.mgC bI .nil pass0 (pa_cons (pe_call GM hr (by rfl) gM kM bM .nil pass0 (pa_cons (pe_fld (pv 0) rfl) (pa_cons (pe_fld (pv 1) rfl) pa_nil))) pa_nil)))))), ?_⟩
    refine ⟨_, rfl, x, L, rfl, hx, ?_⟩
    refine ⟨_, rfl, y, M, rfl, hy, ?_⟩
    obtain ⟨dx, p, hx1, hp⟩ := hx
    obtain ⟨dy, p', hy1, us, hp1, hp2⟩ := hy
    refine ⟨_, rfl, x, C, dx, _, _, rfl, hx1, T.cl, T.nP, rfl, _, rfl, y, C, dy, _, _, rfl, hy1, T.cl, T.nP, rfl, ?_⟩
    refine ⟨p, p', L, M, us, A, B, rfl, hp, gL.1, .inl hp1, hp2, gMm.1, gL.2, gMm.2, A0, B0, AB, len, fun r N H' sm hr' hN cN vN lN => ?_⟩
    refine made_num (C := C) hN fun z H2 sm2 hz hZ => q z N H2 (sm.trans sm2) (sm.free hz) hZ (good_of cN fun r => ?_) vN lN
    rw [vN]
    exact (gL.val A0 r).add (gMm.val B0 r)
end
end TC
namespace TC
open PySem PySem.Spec PyProof.Rows L2 TCA
/-- a dict of roots to whole tops -/
def IntD (H : Hp) (d : Addr) (ks : List Int) (t : Int → Int) : Prop := ∃ kvs, H d = some (.dK kvs) ∧ kvs.map (·.1) = ks.map (Sum.inl : Int → Key) ∧ (∀ r ∈ ks, valV kvs (Sum.inl r : Key) = some (.int (t r))) ∧ ks.Nodup ∧ ∀ r, r ∉ ks → t r = 0
theorem IntD.same {H H' : Hp} {d : Addr} {ks : List Int} {t : Int → Int} (e : Same H H') (h : IntD H d ks t) : IntD H' d ks t := by
  obtain ⟨kvs, h1, h2⟩ := h
  exact ⟨kvs, e _ _ h1, h2⟩
theorem IntD.upd {H : Hp} {d l : Addr} {o : HO} {ks : List Int} {t : Int → Int} (n : d ≠ l) (h : IntD H d ks t) : IntD (L2.upd H l o) d ks t := by
  obtain ⟨kvs, h1, h2⟩ := h
  exact ⟨kvs, by rw [upd_ne n]; exact h1, h2⟩
theorem IntD.imp {H : Hp} {d : Addr} {ks : List Int} {t t' : Int → Int} (h : IntD H d ks t) (e : ∀ r, t r = t' r) : IntD H d ks t' := by
  have : t = t' := funext e
  rw [← this]
  exact h
theorem divInt_zero (b : Int) : Rat.divInt 0 b = 0 := Rat.zero_divInt b
theorem divInt_ne {t b : Int} (hb : b ≠ 0) (ht : t ≠ 0) : Rat.divInt t b ≠ 0 := fun e => by
  rw [← divInt_zero 1, Rat.divInt_eq_divInt_iff hb (by decide)] at e
  simp at e
  exact ht e
section
variable {P : Program} {w : World} {K : PySem.W.Frag} {mg : Str → Option Value} {base : Heap} {f : Addr} {fd : FuncData} {C fI fQ : Addr}
/-! ### lowered, of many roots -/
def spLowered (C : Addr) : Sp := fun vs H Q _ => ∃ (d : Addr) (ks : List Int) (t : Int → Int) (b : Int) (A : Nat), vs = [.ref d, .int b] ∧ IntD H d ks t ∧ b ≠ 0 ∧ b.natAbs < 2 ^ A ∧ 0 < A ∧ A ≤ 8000 ∧ ks.length ≤ 900 ∧
  ∀ x N H', Same H H' → H x = none → NumAt C H' x N → TCR.Canon N → (∀ r, TCR.val N r = Rat.divInt (t r) b) → N.length ≤ ks.length → Q (.ref x) H'
theorem scLowered : FnScope ["tops", "bottom", "parts", "root", "top", "below"] ["tops", "bottom"] (defScope sLowered) := ⟨rfl, rfl, rfl, by decide +kernel, rfl, by decide +kernel, by decide +kernel⟩
theorem ok_lowered {fL : Addr} {fdL fdI : FuncData} (F : FnP K "lowered" sLowered f fd) (T : TxtN K mg C fI fQ) (GL : FnOk P w K mg base CX0 2 fL fdL ["top", "bottom"] spLowest) (bL : L2.Binds K fdL ["top", "bottom"] []) (kL : PySem.W.keepIn K (.ref fL) = true) (gL : mg "in_lowest" = some (.ref fL))
    (GI : FnOk P w K mg base CX0 1 fI fdI ["self", "parts"] (spInit C)) (bI : L2.Binds K fdI ["self", "parts"] []) (gs : mg "sorted" = none) (gl : mg "list" = none) (gt : mg "tuple" = none) : FnOk P w K mg base CX0 3 f fd ["tops", "bottom"] (spLowered C) := by
  refine F.ok scLowered (fun vs H Q E h => ?_) (fun cdv Ar outer s H vs Q E hr h => ?_)
  · obtain ⟨d, ks, t, b, A, rfl, _⟩ := h
    rfl
  · obtain ⟨d, ks, t, b, A, rfl, hd, hb, hz, A0, A8, len, q⟩ := h
    have hu := hu_of hr
    refine ⟨_, PSs.nox (pss_cons (ps_set (i := 2) scLowered.nd rfl (.inl rfl) (pe_lst pa_nil))
      (pss_cons (ps_for PassesOwn.never rfl (pi_list (pe_callB cr_sortedI (by rfl) gs (by decide +kernel) (pa_cons (pe_callTy (call_listD rfl) (by rfl) gl (by decide +kernel) (pa_cons (pv 0) pa_nil)) pa_nil))) (pg_name (i := 3) scLowered.nd rfl (.inl rfl))
        (pss_one (ps_if (pt_cmpR op_ne (pe_dget hu (pv 0) (pv 3) (fun _ _ => rfl)) pe_int (nomark _))
          (pss_cons (ps_asg (pe_call GL hr (by rfl) gL kL bL .nil pass0 (pa_cons (pe_dget hu (pv 0) (pv 3) (fun _ _ => rfl)) (pa_cons (pv 1) pa_nil))) (pg_tup rfl (pgs_cons (pg_name (i := 4) scLowered.nd rfl (.inl rfl)) (pgs_cons (pg_name (i := 5) scLowered.nd rfl (.inl rfl)) pgs_nil))))
          (pss_one (ps_expr (pe_bm PySem.F.plainAttrs_list PySem.F.slot_list_append PySem.F.type_list_append mt_append (pv 2) (pa_cons (pe_tup (pa_cons (pv 3) (pa_cons (pv 4) (pa_cons (pv 5) pa_nil)))) pa_nil))))) pss_nil)))
      (pss_one (ps_ret (pe_make T.mkr GI (hr.mono (by decide)) (by rfl) T.mgC bI .nil pass0 (pa_cons (pe_callTy call_tuple_of (by rfl) gt (by decide +kernel) (pa_cons (pv 2) pa_nil)) pa_nil)))))), ?_⟩
    refine ⟨Nat.zero_le _, fun l hl => ?_⟩
    have sm3 := same_upd (o := .lst []) hl
    obtain ⟨kvs, e1, e2, e3, e4, e5⟩ := hd.same sm3
    have elist : kvs.map (fun kv => kV kv.1) = ks.map V.int := by
      have z := congrArg (List.map kV) e2
      rw [List.map_map, List.map_map] at z
      exact z
    refine ⟨_, rfl, d, kvs, rfl, .inl e1, fun l2 hl2 => ?_⟩
    rw [elist]
    have sm4 := same_upd (o := .lst (ks.map V.int)) hl2
    refine ⟨l2, ks, rfl, SqL.of upd_same, fun ns l3 hperm hsort hl3 => ?_⟩
    have sm5 := same_upd (o := .lst (ns.map V.int)) hl3
    have ndn : ns.Nodup := hperm.nodup_iff.mpr e4
    have nl3 : l ≠ l3 := ne_of_none (sm4 l _ (upd_same (H := H))) hl3
    have ndl : d ≠ l := by
      obtain ⟨_, z, _⟩ := hd
      exact ne_of_none z hl
    have smA := sm3.trans (sm4.trans sm5)
    refine ⟨l3, rfl, ⟨_, SqL.of upd_same⟩, for_list (xs := ns.map V.int) (fun i σ H' => ∃ (w3 w4 w5 : Option V) (vs : List Addr), σ = [some (.ref d), some (.int b), some (.ref l), w3, w4, w5] ∧ Same H H' ∧ H' l = some (.lst (vs.map V.ref)) ∧ H' l3 = some (.lst (ns.map V.int)) ∧ IntD H' d ks t ∧ Refs H' vs (TCR.kept (fun r => Rat.divInt (t r) b) (ns.take i)))
      ⟨none, none, none, [], rfl, smA, sm5 _ _ (sm4 _ _ upd_same), upd_same, hd.same smA, trivial⟩ (fun i σ H' _ hP => ?_) (fun i x σ H' hx hP => ?_) (fun σ H' hP => ?_)⟩
    · obtain ⟨_, _, _, _, _, _, _, z, _⟩ := hP
      exact SqL.of z
    · obtain ⟨w3, w4, w5, vs, rfl, sm, el, el3, hD3, hR⟩ := hP
      rw [List.getElem?_map] at hx
      obtain ⟨r, hr', rfl⟩ : ∃ r, ns[i]? = some r ∧ V.int r = x := by
        cases e : ns[i]? with
        | none =>
          rw [e] at hx
          cases hx
        | some p =>
          rw [e] at hx
          exact ⟨p, rfl, Option.some.inj hx⟩
      have rk : r ∈ ks := hperm.mem_iff.mp (List.mem_of_getElem? hr')
      have etake : ns.take (i + 1) = ns.take i ++ [r] := by
        rw [List.take_add_one, hr']
        rfl
      obtain ⟨kvs3, d1, d2, d3, d4, d5⟩ := id hD3
      have dg := dget_in d1 (d3 r rk)
      refine ⟨_, rfl, _, rfl, d, _, rfl, dg, rfl, _, rfl, ?_⟩
      by_cases ht : t r = 0
      · refine iteNS (congrArg V.int ht) ?_
        refine ⟨_, _, _, vs, rfl, sm, el, el3, hD3, ?_⟩
        rw [etake, TCR.kept_snoc, if_neg (by rw [ht, divInt_zero]; simp), List.append_nil]
        exact hR
      · refine iteNT (ine ht) ?_
        refine ⟨_, rfl, _, rfl, d, _, rfl, dg, _, rfl, t r, b, A, rfl, hb, hz, A0, A8, fun c hc => ?_⟩
        refine ⟨c, _, rfl, SqT.of upd_same, rfl, _, _, rfl, _, _, rfl, rfl, ?_⟩
        have smc : Same H' (upd H' c (.tup [.int (TCM.low (t r) b).1, .int (TCM.low (t r) b).2])) := same_upd hc
        refine ⟨_, rfl, .inl ⟨rfl, _, SqL.of (smc _ _ el)⟩, _, rfl, _, rfl, _, rfl, by show 3 ≤ sizeLine; decide, fun u hu2 => ?_⟩
        have epar : HO.tup [.int r, .int (TCM.low (t r) b).1, .int (TCM.low (t r) b).2] = parV (r, Rat.divInt (t r) b) := by
          rw [TCR.low_rat (t r) b hb]
          rfl
        rw [epar]
        have smu := same_upd (o := parV (r, Rat.divInt (t r) b)) hu2
        have vlen : vs.length ≤ 900 := by
          have z1 := hR.len
          have z2 := TCR.kept_len (fun r => Rat.divInt (t r) b) (ns.take i)
          have z3 : (ns.take i).length ≤ ns.length := by
            rw [List.length_take]
            exact Nat.min_le_right ..
          have z4 := hperm.length_eq
          omega
        have elu := smu _ _ (smc _ _ el)
        refine ⟨l, _, _, rfl, rfl, elu, small1000 (by rw [List.length_map]; omega), ?_⟩
        have hl' : ∀ x, (upd (upd H' c (.tup [.int (TCM.low (t r) b).1, .int (TCM.low (t r) b).2])) u (parV (r, Rat.divInt (t r) b))) l ≠ some (parV x) := fun x e => by
          rw [elu] at e
          cases e
        refine ⟨_, _, _, vs ++ [u], rfl, same_at ((sm.trans smc).trans smu) hl, ?_, ?_, ((hD3.same smc).same smu).upd ndl, ?_⟩
        · rw [upd_same, List.map_append]
          rfl
        · rw [upd_ne nl3.symm]
          exact smu _ _ (smc _ _ el3)
        · rw [etake, TCR.kept_snoc, if_pos (divInt_ne hb ht)]
          exact Refs.upd hl' (Refs.snoc upd_same ((hR.same smc).same smu))
    · obtain ⟨w3, w4, w5, vs, rfl, sm, el, el3, hD3, hR⟩ := hP
      rw [List.length_map, List.take_length] at hR
      refine ⟨_, rfl, l, _, rfl, .inl ⟨SqL.of el, fun p hp => ?_⟩⟩
      have smp := same_upd (o := .tup (vs.map V.ref)) hp
      refine made_num (C := C) (L := TCR.kept (fun r => Rat.divInt (t r) b) ns) ⟨vs, upd_same, hR.same smp⟩ fun x H2 sm2 hx hN => q x _ H2 ((sm.trans smp).trans sm2) ((sm.trans smp).free hx) hN (TCR.canon_kept _ ndn hsort) (fun r => ?_) ?_
      · refine TCR.val_kept (fun r => Rat.divInt (t r) b) r fun z => ?_
        show Rat.divInt (t r) b = 0
        rw [e5 r fun m => z (hperm.mem_iff.mpr m), divInt_zero]
      · have z2 := TCR.kept_len (fun r => Rat.divInt (t r) b) ns
        have z4 := hperm.length_eq
        omega
end
end TC
namespace TC
open PySem PySem.Spec PyProof.Rows L2 TCA
def setI (t : Int → Int) (r z : Int) : Int → Int := fun s => if s = r then z else t s
theorem putI_ok {H : Hp} {d : Addr} {kvs : List (Key × V)} {ks : List Int} {t : Int → Int} {r z : Int} (ek : kvs.map (·.1) = ks.map (Sum.inl : Int → Key))
    (hv : ∀ r ∈ ks, valV kvs (Sum.inl r : Key) = some (.int (t r))) (nd : ks.Nodup) (out : ∀ r, r ∉ ks → t r = 0) :
    IntD (upd H d (.dK (putK kvs (Sum.inl r : Key) (.int z)))) d (addKey ks r) (setI t r z) := by
  refine ⟨_, upd_same, keys_put ek, fun s hs => ?_, nd_addKey nd, fun s hs => ?_⟩
  · rw [valV_put]
    by_cases es : s = r
    · rw [es, if_pos rfl]
      show some (V.int z) = some (V.int (if r = r then z else t r))
      rw [if_pos rfl]
    · have hs' : s ∈ ks := (mem_addKey.mp hs).resolve_right es
      rw [if_neg (inl_ne es), hv s hs']
      show _ = some (V.int (if s = r then z else t s))
      rw [if_neg es]
  · have h1 : s ∉ ks := fun z => hs (mem_addKey.mpr (.inl z))
    have h2 : s ≠ r := fun z => hs (mem_addKey.mpr (.inr z))
    show (if s = r then z else t s) = 0
    rw [if_neg h2, out s h1]
/-- the tops over one bottom -/
def topsOf (L : List Part) (c : Nat) (r : Int) : Int := (TCR.val L r).num * ((c / (TCR.val L r).den : Nat) : Int)
theorem topsOf_div {L : List Part} {c : Nat} (hc : 0 < c) (r : Int) (h : (TCR.val L r).den ∣ c) : Rat.divInt (topsOf L c r) (c : Int) = TCR.val L r := by
  have dp := (TCR.val L r).den_pos
  have d0 : ((TCR.val L r).den : Int) ≠ 0 := by omega
  have c0 : ((c : Nat) : Int) ≠ 0 := by omega
  have e : Rat.divInt (topsOf L c r) (c : Int) = Rat.divInt (TCR.val L r).num ((TCR.val L r).den : Int) := by
    rw [Rat.divInt_eq_divInt_iff c0 d0]
    unfold topsOf
    rw [Int.mul_assoc]
    congr 1
    rw [← Int.natCast_mul, Nat.div_mul_cancel h]
  rw [e, Rat.num_divInt_den]
theorem den_val {L : List Part} {D : Nat} (h : ∀ x ∈ L, x.2.den ∣ D) (c : TCR.Canon L) (r : Int) : (TCR.val L r).den ∣ D := by
  rcases Classical.em (∃ q, (r, q) ∈ L) with ⟨q, z⟩ | z
  · rw [c.mem z]
    exact h _ z
  · rw [TCR.val_not fun x hx e => z ⟨x.2, by rw [← e]; exact hx⟩]
    exact Nat.one_dvd _
section
variable {P : Program} {w : World} {K : PySem.W.Frag} {mg : Str → Option Value} {base : Heap} {f : Addr} {fd : FuncData} {C fI fQ : Addr}
/-! ### on_one_bottom -/
def spOneB : Sp := fun vs H Q _ => ∃ (p : Addr) (L : List Part) (D A B : Nat), vs = [.ref p] ∧ PartsL H p L ∧ TCR.Canon L ∧ (∀ x ∈ L, x.2.den ∣ D) ∧ 0 < D ∧ D < 2 ^ B ∧ 0 < B ∧ B ≤ 8000 ∧ (∀ x ∈ L, x.2.num.natAbs < 2 ^ A) ∧ 0 < A ∧ A ≤ 20000 ∧ L.length ≤ 60 ∧
  ∀ (v d : Addr) (c : Nat) H', Same H H' → H v = none → H' v = some (.tup [.ref d, .int (c : Int)]) → H d = none → IntD H' d (L.map (·.1)) (topsOf L c) → 0 < c → c ∣ D → (∀ x ∈ L, x.2.den ∣ c) → Q (.ref v) H'
theorem scOneB : FnScope ["parts", "common", "root", "top", "bottom"] ["parts"] (defScope sOneBottom) := ⟨rfl, rfl, rfl, by decide +kernel, rfl, by decide +kernel, by decide +kernel⟩
theorem ok_oneB {fS : Addr} {fdS : FuncData} (F : FnP K "on_one_bottom" sOneBottom f fd) (GS : FnOk P w K mg base CX0 1 fS fdS ["one", "other"] spShared) (bS : L2.Binds K fdS ["one", "other"] []) (kS : PySem.W.keepIn K (.ref fS) = true) (gS : mg "shared" = some (.ref fS)) :
    FnOk P w K mg base CX0 2 f fd ["parts"] spOneB := by
  refine F.ok scOneB (fun vs H Q E h => ?_) (fun cdv Ar outer s H vs Q E hr h => ?_)
  · obtain ⟨p, L, D, A, B, rfl, _⟩ := h
    rfl
  · obtain ⟨p, L, D, A, B, rfl, ⟨us, hp, hL⟩, cL, dD, D0, DB, B0, B8, zA, A0, A2, len, q⟩ := h
    have hu := hu_of hr
    refine ⟨_, PSs.nox (pss_cons (ps_set (i := 1) scOneB.nd rfl (.inr rfl) pe_int)
      (pss_cons (ps_for PassesOwn.never rfl (pi_tup (pv 0)) (pg_tup rfl (pgs_cons (pg_name (i := 2) scOneB.nd rfl (.inl rfl)) (pgs_cons (pg_name (i := 3) scOneB.nd rfl (.inl rfl)) (pgs_cons (pg_name (i := 4) scOneB.nd rfl (.inl rfl)) pgs_nil))))
        (pss_one (ps_set (i := 1) scOneB.nd rfl (.inr rfl) (pe_op op_mulW (pe_op op_fdivNW (pv 1) (pe_call GS hr (by rfl) gS kS bS .nil pass0 (pa_cons (pv 1) (pa_cons (pv 4) pa_nil)))) (pv 4)))))
      (pss_one (ps_ret (pe_tup (pa_cons (pe_dc (own := [("root", 2), ("top", 3), ("bottom", 4)]) (g := gTup K 3 (gCons (gName 2) (gCons (gName 3) (gCons (gName 4) gNil)))) (tt := tYes) (tk := tVar 2) (tv := tOp (rI CMulW fun i j => .int (i * j)) (tVar 3) (tOp (rI CDivNW fun i j => .int (i.fdiv j)) (tVar 1) (tVar 4))) rfl scOneB.nd (pi_tup (pv 0))
          (blkOk_by (N := ["parts", "common", "root", "top", "bottom"]) (sc := defScope sOneBottom) (by decide +kernel))
          (fun _ _ _ _ _ => pg_tup rfl (pgs_cons (pg_name (i := 2) scOneB.nd rfl (.inl rfl)) (pgs_cons (pg_name (i := 3) scOneB.nd rfl (.inl rfl)) (pgs_cons (pg_name (i := 4) scOneB.nd rfl (.inl rfl)) pgs_nil)))) (fun _ _ _ _ _ => pts_nil) (fun _ _ _ _ _ => pv 2) (fun _ _ _ _ _ => pe_op op_mulW (pv 3) (pe_op op_fdivNW (pv 1) (pv 4))))
          (pa_cons (pv 1) pa_nil))))))), ?_⟩
    refine ⟨_, rfl, p, rfl, ⟨_, SqT.of hp⟩, for_tup (xs := us.map V.ref) (fun i σ H' => ∃ (v2 v3 v4 : Option V) (c : Nat), σ = [some (.ref p), some (.int (c : Int)), v2, v3, v4] ∧ H' = H ∧ 0 < c ∧ (∀ x ∈ L.take i, x.2.den ∣ c) ∧ (∀ E, (∀ x ∈ L.take i, x.2.den ∣ E) → c ∣ E))
      ⟨none, none, none, 1, rfl, rfl, by decide, (fun x hx => by simp at hx), fun E _ => Nat.one_dvd E⟩ (fun i σ H' _ hP => ?_) (fun i x σ H' hx hP => ?_) (fun σ H' hP => ?_)⟩
    · obtain ⟨_, _, _, _, _, rfl, _⟩ := hP
      exact SqT.of hp
    · obtain ⟨v2, v3, v4, c, rfl, rfl, c0, cd, cm⟩ := hP
      obtain ⟨u, y, rfl, hu', hy, hyv⟩ := hL.get hx
      have hyL : y ∈ L := List.mem_of_getElem? hy
      have et : L.take (i + 1) = L.take i ++ [y] := by
        rw [List.take_add_one, hy]
        rfl
      have cD : c ∣ D := cm D fun x hx => dD x (List.mem_of_mem_take hx)
      have cB : c < 2 ^ B := Nat.lt_of_le_of_lt (Nat.le_of_dvd D0 cD) DB
      have yB : y.2.den < 2 ^ B := Nat.lt_of_le_of_lt (Nat.le_of_dvd D0 (dD y hyL)) DB
      have dp := y.2.den_pos
      have gp : 0 < Nat.gcd c y.2.den := Nat.gcd_pos_of_pos_left _ c0
      have gB : Nat.gcd c y.2.den < 2 ^ B := Nat.lt_of_le_of_lt (Nat.le_of_dvd c0 (Nat.gcd_dvd_left ..)) cB
      have eg : Int.gcd (c : Int) (y.2.den : Int) = Nat.gcd c y.2.den := by
        rw [Int.gcd_natCast_natCast]
      have el : c / Nat.gcd c y.2.den * y.2.den = Nat.lcm c y.2.den := by
        rw [Nat.lcm, Nat.div_mul_right_comm (Nat.gcd_dvd_left ..)]
      refine ⟨u, _, rfl, SqT.of hyv, rfl, _, _, rfl, _, _, rfl, _, _, rfl, rfl, ?_⟩
      refine ⟨_, rfl, _, rfl, _, rfl, (c : Int), (y.2.den : Int), rfl, ?_⟩
      rw [eg]
      refine ⟨(c : Int), ((Nat.gcd c y.2.den : Nat) : Int), rfl, rfl, cdivn gp gB B0 B8, _, rfl, _, (y.2.den : Int), rfl, rfl, ?_, ?_⟩
      · show CMulW ((c : Int).fdiv ((Nat.gcd c y.2.den : Nat) : Int)) (y.2.den : Int)
        rw [fdiv_nat]
        exact cmulw (A := B) (B := B) (by rw [Int.natAbs_natCast]; exact Nat.lt_of_le_of_lt (Nat.div_le_self ..) cB) (by rw [Int.natAbs_natCast]; exact yB) B0 B0 (by omega)
      · refine ⟨some (.int y.1), some (.int y.2.num), some (.int (y.2.den : Int)), Nat.lcm c y.2.den, ?_, rfl, Nat.pos_of_ne_zero (fun z => ?_), fun x hx => ?_, fun E hE => ?_⟩
        · show [some (V.ref p), some (V.int ((c : Int).fdiv ((Nat.gcd c y.2.den : Nat) : Int) * (y.2.den : Int))), some (V.int y.1), some (V.int y.2.num), some (V.int (y.2.den : Int))] = _
          rw [fdiv_nat, ← Int.natCast_mul, el]
        · rcases Nat.lcm_eq_zero_iff.mp z with z | z <;> omega
        · rw [et] at hx
          rcases List.mem_append.mp hx with z | z
          · exact Nat.dvd_trans (cd x z) (Nat.dvd_lcm_left ..)
          · rw [List.mem_singleton.mp z]
            exact Nat.dvd_lcm_right ..
        · rw [et] at hE
          exact Nat.lcm_dvd (cm E fun x hx => hE x (List.mem_append_left _ hx)) (hE y (List.mem_append_right _ (List.mem_singleton.mpr rfl)))
    · obtain ⟨v2, v3, v4, c, rfl, rfl, c0, cd, cm⟩ := hP
      rw [List.length_map, hL.len, List.take_length] at cd cm
      have cD : c ∣ D := cm D dD
      have cB : c < 2 ^ B := Nat.lt_of_le_of_lt (Nat.le_of_dvd D0 cD) DB
      refine ⟨_, rfl, p, rfl, ⟨_, SqT.of hp⟩, fun d hd => dc_tup (xs := us.map V.ref) (fun i H2 => Same H' H2 ∧ IntD H2 d ((L.take i).map (·.1)) (topsOf (L.take i) c)) ?_ (fun i H2 _ hP => SqT.of (hP.1 _ _ hp)) (fun i x H2 hx hP => ?_) (fun H2 hP => ?_)⟩
      · exact ⟨same_upd hd, [], upd_same, rfl, (fun r hr => by cases hr), List.nodup_nil, fun r _ => by unfold topsOf; exact Int.zero_mul _⟩
      · obtain ⟨sm, kvs, e1, e2, e3, e4, e5⟩ := hP
        obtain ⟨u, y, rfl, hu', hy, hyv⟩ := (hL.same sm).get hx
        have hyL : y ∈ L := List.mem_of_getElem? hy
        have il : i < L.length := (List.getElem?_eq_some_iff.mp hy).1
        have et : L.take (i + 1) = L.take i ++ [y] := by
          rw [List.take_add_one, hy]
          rfl
        have dp := y.2.den_pos
        have yB : y.2.den < 2 ^ B := Nat.lt_of_le_of_lt (Nat.le_of_dvd D0 (dD y hyL)) DB
        have t0 := (TCR.val_take cL y.1 hy).1
        have t1 := fun s => (TCR.val_take cL s hy).2
        have nin : y.1 ∉ (L.take i).map (·.1) := fun m => by
          obtain ⟨z, hz, ez⟩ := List.mem_map.mp m
          have cT : TCR.Canon (L.take i) := ⟨cL.srt.sublist (List.take_sublist ..), fun x hx => cL.nz x (List.mem_of_mem_take hx)⟩
          have := cT.mem hz
          rw [ez, t0] at this
          exact cT.nz z hz this.symm
        refine ⟨u, _, rfl, SqT.of hyv, rfl, _, _, rfl, _, _, rfl, _, _, rfl, rfl, rfl, ?_⟩
        refine ⟨_, rfl, _, rfl, _, rfl, _, rfl, (c : Int), (y.2.den : Int), rfl, rfl, cdivn dp yB B0 B8, y.2.num, _, rfl, rfl, ?_, ?_⟩
        · show CMulW y.2.num ((c : Int).fdiv (y.2.den : Int))
          rw [fdiv_nat]
          exact cmulw (A := A) (B := B) (zA y hyL) (by rw [Int.natAbs_natCast]; exact Nat.lt_of_le_of_lt (Nat.div_le_self ..) cB) A0 B0 (by omega)
        · refine ⟨kvs, Sum.inl y.1, rfl, e1, small1000 (by rw [len_keys e2, List.length_map, List.length_take]; omega), same_at sm hd, ?_⟩
          show IntD (upd H2 d (.dK (putK kvs (Sum.inl y.1) (.int (y.2.num * (c : Int).fdiv (y.2.den : Int)))))) d _ _
          rw [fdiv_nat]
          have z := putI_ok (H := H2) (d := d) (r := y.1) (z := y.2.num * ((c / y.2.den : Nat) : Int)) e2 e3 e4 e5
          have ek : addKey ((L.take i).map (·.1)) y.1 = (L.take (i + 1)).map (·.1) := by
            unfold addKey
            rw [if_neg nin, et, List.map_append]
            rfl
          rw [ek] at z
          refine z.imp fun s => ?_
          unfold setI topsOf
          rw [t1 s]
          by_cases es : s = y.1
          · rw [if_pos es, if_pos es]
          · rw [if_neg es, if_neg es]
      · obtain ⟨sm, hI⟩ := hP
        rw [List.length_map, hL.len, List.take_length] at hI
        refine ⟨_, rfl, by show 2 ≤ sizeLine; decide, fun v hv => ?_⟩
        have sv := same_upd (o := .tup [.ref d, .int (c : Int)]) hv
        exact q v d c _ (sm.trans sv) (sm.free hv) upd_same hd (hI.same sv) c0 cD cd
end
end TC
namespace TC
open PySem PySem.Spec PyProof.Rows L2 TCA
theorem dget_rd {H : Hp} {d : Addr} {kvs : List (Key × V)} {r : Int} {v : V} (e : Rd H d (.dK kvs)) (h : valV kvs (Sum.inl r : Key) = some v) : DGet H d (.int r) (some v) := by
  have z : DGet H d (kV (Sum.inl r : Key)) (valV kvs (Sum.inl r : Key)) := .inl ⟨kvs, Sum.inl r, e, rfl, rfl⟩
  rw [h] at z
  exact z
theorem key_at {kvs : List (Key × V)} {ks : List Int} {i : Nat} {k : Key} {v : V} (e : kvs.map (·.1) = ks.map (Sum.inl : Int → Key)) (h : kvs[i]? = some (k, v)) : ∃ r, ks[i]? = some r ∧ k = Sum.inl r := by
  have z : (kvs.map (·.1))[i]? = some k := by
    rw [List.getElem?_map, h]
    rfl
  rw [e, List.getElem?_map] at z
  cases q : ks[i]? with
  | none =>
    rw [q] at z
    cases z
  | some r =>
    rw [q] at z
    exact ⟨r, rfl, (Option.some.inj z).symm⟩
theorem valV_drop {kvs : List (Key × V)} {k j : Key} : valV (dropK kvs k) j = if j = k then none else valV kvs j := by
  induction kvs with
  | nil => simp [dropK, valV]
  | cons p r ih =>
    by_cases e : p.1 = k
    · rw [dropK_pos e, ih]
      by_cases ej : j = k
      · rw [if_pos ej, if_pos ej]
      · rw [if_neg ej, if_neg ej, valV_neg (p := p) fun z => ej (z.symm.trans e)]
    · rw [dropK_neg e]
      by_cases ep : p.1 = j
      · rw [valV_pos ep, valV_pos ep, if_neg fun z => e (ep.trans z)]
      · rw [valV_neg ep, valV_neg ep, ih]
theorem keys_drop {kvs : List (Key × V)} {ks : List Int} {r : Int} (e : kvs.map (·.1) = ks.map (Sum.inl : Int → Key)) : (dropK kvs (Sum.inl r : Key)).map (·.1) = (ks.filter fun s => decide (s ≠ r)).map (Sum.inl : Int → Key) := by
  induction kvs generalizing ks with
  | nil =>
    cases ks with
    | nil => rfl
    | cons a ks => cases e
  | cons p kvs ih =>
    cases ks with
    | nil => cases e
    | cons a ks =>
      have e1 : p.1 = Sum.inl a := (List.cons.inj e).1
      have e2 : kvs.map (·.1) = ks.map (Sum.inl : Int → Key) := (List.cons.inj e).2
      by_cases h : a = r
      · rw [dropK_pos (by rw [e1, h]), List.filter_cons, if_neg (by simp [h])]
        exact ih e2
      · rw [dropK_neg (by rw [e1]; exact inl_ne h), List.filter_cons, if_pos (by simp [h]), List.map_cons, List.map_cons, ih e2, e1]
theorem mem_take_succ {ks : List Int} {i : Nat} {r s : Int} (h : ks[i]? = some r) : s ∈ ks.take (i + 1) ↔ s ∈ ks.take i ∨ s = r := by
  rw [List.take_add_one, h]
  simp
theorem mem_drop_of {ks : List Int} {i : Nat} {r : Int} (h : ks[i]? = some r) : ks.drop i = r :: ks.drop (i + 1) := by
  obtain ⟨hl, e⟩ := List.getElem?_eq_some_iff.mp h
  rw [List.drop_eq_getElem_cons hl, e]
theorem nd_not_take {ks : List Int} (nd : ks.Nodup) {i : Nat} {r : Int} (h : ks[i]? = some r) : r ∉ ks.take i := fun m => by
  obtain ⟨j, hj, e⟩ := List.mem_iff_getElem.mp m
  rw [List.length_take] at hj
  rw [List.getElem_take] at e
  obtain ⟨hl, e2⟩ := List.getElem?_eq_some_iff.mp h
  have := (List.getElem_inj nd (h₀ := by omega) (h₁ := hl)).mp (e.trans e2.symm)
  omega
def Clear (ks : List Int) (g : Int → Rat) : Prop := ∀ r ∈ ks, g r ≠ 0
section
variable {P : Program} {w : World} {K : PySem.W.Frag} {mg : Str → Option Value} {base : Heap} {f : Addr} {fd : FuncData} {C fI fQ : Addr}
/-! ### _law_cleared -/
def spCleared : Sp := fun vs H Q _ => ∃ (d : Addr) (ks : List Int) (g : Int → Rat), vs = [.ref d] ∧ DictAt H d ks g ∧ ks.length ≤ 900 ∧
  ∀ d' ks' H', Same H H' → H d' = none → DictAt H' d' ks' g → Clear ks' g → ks'.length ≤ ks.length → (∀ r ∈ ks', r ∈ ks) → Q (.ref d') H'
theorem scCleared : FnScope ["_law_some_here", "_law_found", "_law_r"] ["_law_some_here"] (defScope sCleared) := ⟨rfl, rfl, rfl, by decide +kernel, rfl, by decide +kernel, by decide +kernel⟩
theorem ok_cleared (F : FnP K "_law_cleared" sCleared f fd) (gd : mg "dict" = none) : FnOk P w K mg base CX0 1 f fd ["_law_some_here"] spCleared := by
  refine F.ok scCleared (fun vs H Q E h => ?_) (fun cdv Ar outer s H vs Q E hr h => ?_)
  · obtain ⟨d, ks, g, rfl, _⟩ := h
    rfl
  · obtain ⟨d, ks, g, rfl, hd, len, q⟩ := h
    have hu := hu_of hr
    refine ⟨_, PSs.nox (pss_cons (ps_set (i := 1) scCleared.nd rfl (.inl rfl) (pe_callTy call_dictD (by rfl) gd (by decide +kernel) (pa_cons (pv 0) pa_nil)))
      (pss_cons (ps_lock (ps_for PassesOwn.never rfl (pi_keys (pv 0)) (pg_name (i := 2) scCleared.nd rfl (.inl rfl))
        (pss_one (ps_if (pt_cmpR op_eq (pe_ix ix_tup (pe_dget hu (pv 0) (pv 2) (fun _ _ => rfl)) pe_int (fun _ _ => rfl)) pe_int (nomark _))
          (pss_one (ps_expr (pe_dpop1 (pv 1) (pv 2) ⟨rfl, rfl, rfl, rfl⟩))) pss_nil))))
      (pss_one (ps_ret (pv 1))))), ?_⟩
    obtain ⟨kvs, e1, e2, e3, e4, e5⟩ := id hd
    refine ⟨_, rfl, d, kvs, rfl, .inl e1, fun p hp => ?_⟩
    have smp := same_upd (o := .dK kvs) hp
    have npd : p ≠ d := (ne_of_none e1 hp).symm
    refine ⟨d, .dK kvs, smp _ _ e1, trivial, fun od => ?_⟩
    refine ⟨_, rfl, d, od, rfl, .inl ⟨kvs, upd_same, ?_⟩⟩
    -- u's are none of d, p
    have nud : ∀ {u : Addr} {q : Rat}, H u = some (fraV q) → u ≠ d := fun {u q} hu z => by
      rw [z, e1] at hu
      cases hu
    refine for_it (walk_keys (d := d) (o := od) (kvs := kvs)) (fun i σ H' => ∃ (v2 : Option V) (ks' : List Int), σ = [some (.ref d), some (.ref p), v2] ∧ H' d = some (.frz od (.dK kvs)) ∧ (∀ b o, H b = some o → b ≠ d → H' b = some o) ∧ DictAt H' p ks' g ∧ ks'.length ≤ ks.length ∧ (∀ r ∈ ks', r ∈ ks) ∧ (∀ r ∈ ks.drop i, r ∈ ks') ∧ ∀ r ∈ ks.take i, r ∈ ks' → g r ≠ 0)
      ⟨none, ks, rfl, upd_same, fun b o e hb => by rw [upd_ne hb]; exact smp _ _ e, ?_, Nat.le_refl _, fun r hr => hr, fun r hr => hr, (fun r hr => by simp at hr)⟩ (fun i σ H' _ hP => ?_) (fun i x σ H' H2 hi hP hy => ?_) (fun σ H' hP => ?_)
    · refine ⟨kvs, by rw [upd_ne npd, upd_same], e2, fun r hr => ?_, e4, e5⟩
      obtain ⟨u, a, b⟩ := e3 r hr
      exact ⟨u, a, by rw [upd_ne (nud b)]; exact smp _ _ b⟩
    · obtain ⟨_, _, _, z, _⟩ := hP
      exact z
    · obtain ⟨rfl, k, v, hkv, rfl⟩ := hy
      obtain ⟨v2, ks', rfl, hfz, keep, hp', l', sub, dr, tk⟩ := hP
      obtain ⟨r, hr', rfl⟩ := key_at e2 hkv
      have rk : r ∈ ks := List.mem_of_getElem? hr'
      obtain ⟨u, a, b⟩ := e3 r rk
      have bu := keep _ _ b (nud b)
      have edr := mem_drop_of hr'
      have rk' : r ∈ ks' := dr r (by rw [edr]; exact List.mem_cons_self ..)
      refine ⟨_, rfl, _, rfl, d, _, rfl, dget_rd (.inr ⟨od, hfz⟩) a, u, _, 0, _, rfl, rfl, SqT.of bu, atI_nat (j := 0) rfl, rfl, _, rfl, ?_⟩
      by_cases hz : g r = 0
      · have hn0 : (g r).num = 0 := by rw [hz]; rfl
        refine iteD1 (congrArg V.int hn0) ?_
        obtain ⟨kv2, f1, f2, f3, f4, f5⟩ := id hp'
        obtain ⟨u2, c1, c2⟩ := f3 r rk'
        refine ⟨_, rfl, p, rfl, .inl ⟨_, .inl f1⟩, _, rfl, kv2, Sum.inl r, _, f1, rfl, c1, ?_⟩
        have nup : ∀ {u : Addr} {q : Rat}, H2 u = some (fraV q) → u ≠ p := fun {u q} hu z => by
          rw [z, f1] at hu
          cases hu
        refine ⟨_, ks'.filter (fun s => decide (s ≠ r)), rfl, by rw [upd_ne npd.symm]; exact hfz, fun b o e hb => ?_, ?_, Nat.le_trans (List.length_filter_le ..) l', fun s hs => sub s (List.mem_filter.mp hs).1, fun s hs => ?_, fun s hs hs' => ?_⟩
        · rw [upd_ne (ne_of_none e hp)]
          exact keep b o e hb
        · refine ⟨_, upd_same, keys_drop f2, fun s hs => ?_, f4.filter _, fun s hs => ?_⟩
          · obtain ⟨hs1, hs2⟩ := List.mem_filter.mp hs
            have sr : s ≠ r := of_decide_eq_true hs2
            obtain ⟨u3, g1, g2⟩ := f3 s hs1
            refine ⟨u3, ?_, by rw [upd_ne (nup g2)]; exact g2⟩
            rw [valV_drop, if_neg (inl_ne sr)]
            exact g1
          · by_cases sr : s = r
            · rw [sr]
              exact hz
            · exact f5 s fun m => hs (List.mem_filter.mpr ⟨m, decide_eq_true sr⟩)
        · have s1 : s ∈ ks.drop i := by
            rw [edr]
            exact List.mem_cons_of_mem _ hs
          refine List.mem_filter.mpr ⟨dr s s1, decide_eq_true fun e => ?_⟩
          have nd2 : (r :: ks.drop (i + 1)).Nodup := by
            rw [← edr]
            exact e4.sublist (List.drop_sublist ..)
          exact (List.nodup_cons.mp nd2).1 (e ▸ hs)
        · obtain ⟨hs1, hs2⟩ := List.mem_filter.mp hs'
          rcases (mem_take_succ hr').mp hs with m | m
          · exact tk s m hs1
          · exact absurd m (of_decide_eq_true hs2)
      · have hn0 : (g r).num ≠ 0 := fun e => hz (Rat.num_eq_zero.mp e)
        refine iteD0 (ine hn0) ?_
        refine ⟨_, ks', rfl, hfz, keep, hp', l', sub, fun s hs => dr s (by rw [edr]; exact List.mem_cons_of_mem _ hs), fun s hs hs' => ?_⟩
        rcases (mem_take_succ hr').mp hs with m | m
        · exact tk s m hs'
        · rw [m]
          exact hz
    · obtain ⟨v2, ks', rfl, hfz, keep, hp', l', sub, dr, tk⟩ := hP
      refine ⟨hfz, _, rfl, ?_⟩
      have lk := len_keys e2
      have smf : Same H (upd H' d (.dK kvs)) := fun b o e => by
        by_cases hb : b = d
        · rw [hb, upd_same]
          rw [hb, e1] at e
          exact e
        · rw [upd_ne hb]
          exact keep b o e hb
      refine q p ks' _ smf hp ?_ (fun r hr => ?_) l' sub
      · obtain ⟨kv2, f1, f2, f3, f4, f5⟩ := hp'
        refine ⟨kv2, by rw [upd_ne npd]; exact f1, f2, fun r hr => ?_, f4, f5⟩
        obtain ⟨u2, c1, c2⟩ := f3 r hr
        refine ⟨u2, c1, ?_⟩
        rw [upd_ne fun z => by
          rw [z, hfz] at c2
          cases c2]
        exact c2
      · refine tk r ?_ hr
        rw [lk, List.take_length]
        exact sub r hr
end
end TC
namespace TC
open PySem PySem.Spec PyProof.Rows L2 TCA
/-! ### sums over pairs of roots -/
def sumI : List Int → Int
  | [] => 0
  | a :: l => a + sumI l
theorem sumI_append : ∀ (l m : List Int), sumI (l ++ m) = sumI l + sumI m
  | [], m => by show sumI m = 0 + sumI m; omega
  | a :: l, m => by
    show a + sumI (l ++ m) = a + sumI l + sumI m
    rw [sumI_append l m]
    omega
def gR (r s : Int) : Int := ((Int.gcd r s : Nat) : Int)
def mulR (r s : Int) : Int := r.fdiv (gR r s) * s.fdiv (gR r s)
def rowI (r z : Int) (k2 : List Int) (t2 : Int → Int) (u : Int) : Int := sumI (k2.map fun s => if mulR r s = u then z * t2 s * gR r s else 0)
def prodI (k1 k2 : List Int) (t1 t2 : Int → Int) (u : Int) : Int := sumI (k1.map fun r => rowI r (t1 r) k2 t2 u)
theorem rowI_succ {r z : Int} {k2 : List Int} {t2 : Int → Int} {j : Nat} {s : Int} (h : k2[j]? = some s) (u : Int) : rowI r z (k2.take (j + 1)) t2 u = rowI r z (k2.take j) t2 u + if mulR r s = u then z * t2 s * gR r s else 0 := by
  unfold rowI
  rw [List.take_add_one, h, List.map_append, sumI_append]
  show _ + (_ + 0) = _
  rw [Int.add_zero]
theorem prodI_succ {k1 k2 : List Int} {t1 t2 : Int → Int} {i : Nat} {r : Int} (h : k1[i]? = some r) (u : Int) : prodI (k1.take (i + 1)) k2 t1 t2 u = prodI (k1.take i) k2 t1 t2 u + rowI r (t1 r) k2 t2 u := by
  unfold prodI
  rw [List.take_add_one, h, List.map_append, sumI_append]
  show _ + (_ + 0) = _
  rw [Int.add_zero]
theorem valV_get : ∀ {kvs : List (Key × V)} {i : Nat} {k : Key} {v : V}, (kvs.map (·.1)).Nodup → kvs[i]? = some (k, v) → valV kvs k = some v
  | [], i, k, v, _, h => by simp at h
  | p :: kvs, 0, k, v, _, h => by
    have e : p = (k, v) := by simpa using h
    rw [e]
    exact valV_pos rfl
  | p :: kvs, i + 1, k, v, nd, h => by
    have h' : kvs[i]? = some (k, v) := by simpa using h
    have n := List.nodup_cons.mp nd
    rw [valV_neg fun e => n.1 (by
      show p.1 ∈ _
      rw [e]
      exact List.mem_map.mpr ⟨_, List.mem_of_getElem? h', rfl⟩)]
    exact valV_get n.2 h'
theorem int_at {kvs : List (Key × V)} {ks : List Int} {t : Int → Int} {i : Nat} {x y : V} (e2 : kvs.map (·.1) = ks.map (Sum.inl : Int → Key)) (e3 : ∀ r ∈ ks, valV kvs (Sum.inl r : Key) = some (.int (t r))) (nd : ks.Nodup)
    (hx : (kvs[i]?.map fun kv => kV kv.1) = some x) (hy : (kvs[i]?.map Prod.snd) = some y) : ∃ r, ks[i]? = some r ∧ x = .int r ∧ y = .int (t r) := by
  cases e : kvs[i]? with
  | none =>
    rw [e] at hx
    cases hx
  | some kv =>
    obtain ⟨k, v⟩ := kv
    rw [e] at hx hy
    obtain ⟨r, hr, rfl⟩ := key_at e2 e
    have ndk : (kvs.map (·.1)).Nodup := by
      rw [e2]
      exact List.pairwise_map.mpr (nd.imp fun {a b} z => inl_ne z)
    have hv := valV_get ndk e
    rw [e3 r (List.mem_of_getElem? hr)] at hv
    refine ⟨r, hr, (Option.some.inj hx).symm, ?_⟩
    rw [Option.some.inj hv]
    exact (Option.some.inj hy).symm
section
variable {J : It} {n : Nat} {G : Hp → Prop} {Y : Nat → Hp → V → Hp → Prop}
theorem dc_it (w : Walk J n G Y) {g : TG} {tt : TT} {tk tv : TE} {vs : List Nat} {σ : L2.St} {H1 : Hp} {D : Addr} {Qd : Hp → Prop} (Pv : Nat → Hp → Prop) (h0 : Pv 0 (upd H1 D (.dK []))) (hG : ∀ i H, i ≤ n → Pv i H → G H)
    (hs : ∀ i x H H', i < n → Pv i H → Y i H x H' → g x (wipe σ vs) H' fun σ2 H2 => wipe σ2 vs = wipe σ vs ∧ tt σ2 H2 fun b H3 =>
      if b = true then tk σ2 H3 fun y H4 => tv σ2 H4 fun z H5 => ∃ kvs k, y = kV k ∧ H5 D = some (.dK kvs) ∧ kvs.length < sizeLine ∧ Pv (i + 1) (upd H5 D (.dK (putK kvs k z))) else Pv (i + 1) H3) (hd : ∀ H, Pv n H → Qd H) :
    ∃ W : Nat → Nat → Hp → Prop, (∃ m, W 0 m (upd H1 D (.dK []))) ∧ ∀ i m H, W i m H →
      (J.stop i H ∧ Qd H) ∨ (J.go i H ∧ ∃ Nx : Hp → Prop, (∀ H', Nx H' → ∃ m', m' < m ∧ W (i + 1) m' H') ∧ ∀ x H', J.yld i H x H' → g x (wipe σ vs) H' fun σ2 H2 => wipe σ2 vs = wipe σ vs ∧ tt σ2 H2 fun b H3 =>
        if b = true then tk σ2 H3 fun y H4 => tv σ2 H4 fun z H5 => ∃ kvs k, y = kV k ∧ H5 D = some (.dK kvs) ∧ kvs.length < sizeLine ∧ Nx (upd H5 D (.dK (putK kvs k z))) else Nx H3) := by
  refine ⟨fun i m H => m = n - i ∧ i ≤ n ∧ Pv i H, ⟨n, by simp, Nat.zero_le _, h0⟩, ?_⟩
  rintro i m H ⟨rfl, hi, p⟩
  have q := hG i H hi p
  by_cases hlt : i < n
  · exact .inr ⟨w.goes i H hlt q, Pv (i + 1), fun H' p' => ⟨n - (i + 1), by omega, rfl, hlt, p'⟩, fun x H' y => hs i x H H' hlt p (w.yields i H x H' hlt q y)⟩
  · have e : i = n := by omega
    subst e
    exact .inl ⟨w.stops H q, hd H p⟩
end
section
variable {P : Program} {w : World} {K : PySem.W.Frag} {mg : Str → Option Value} {base : Heap} {f : Addr} {fd : FuncData} {C fI fQ : Addr}
/-! ### products -/
def spProducts : Sp := fun vs H Q _ => ∃ (d1 d2 : Addr) (k1 k2 : List Int) (t1 t2 : Int → Int) (A B R : Nat), vs = [.ref d1, .ref d2] ∧ d1 ≠ d2 ∧ IntD H d1 k1 t1 ∧ IntD H d2 k2 t2 ∧ (∀ r ∈ k1, 0 < r ∧ r.natAbs < 2 ^ R) ∧ (∀ r ∈ k2, 0 < r ∧ r.natAbs < 2 ^ R) ∧
  (∀ r, (t1 r).natAbs < 2 ^ A) ∧ (∀ r, (t2 r).natAbs < 2 ^ B) ∧ 0 < A ∧ 0 < B ∧ A + B ≤ 80000 ∧ 0 < R ∧ R ≤ 5000 ∧ k1.length * k2.length ≤ 900 ∧
  ∀ d ks H', Same H H' → H d = none → IntD H' d ks (prodI k1 k2 t1 t2) → ks.length ≤ k1.length * k2.length → (∀ u ∈ ks, ∃ r ∈ k1, ∃ s ∈ k2, u = mulR r s) → Q (.ref d) H'
theorem scProducts : FnScope ["tops", "others", "found", "root", "top", "by", "number", "common", "left"] ["tops", "others"] (defScope sProducts) := ⟨rfl, rfl, rfl, by decide +kernel, rfl, by decide +kernel, by decide +kernel⟩
theorem ok_products {fS : Addr} {fdS : FuncData} (F : FnP K "products" sProducts f fd) (GS : FnOk P w K mg base CX0 1 fS fdS ["one", "other"] spShared) (bS : L2.Binds K fdS ["one", "other"] []) (kS : PySem.W.keepIn K (.ref fS) = true) (gS : mg "shared" = some (.ref fS)) :
    FnOk P w K mg base CX0 2 f fd ["tops", "others"] spProducts := by
  refine F.ok scProducts (fun vs H Q E h => ?_) (fun cdv Ar outer s H vs Q E hr h => ?_)
  · obtain ⟨d1, d2, k1, k2, t1, t2, A, B, R, rfl, _⟩ := h
    rfl
  · obtain ⟨d1, d2, k1, k2, t1, t2, A, B, R, rfl, ndd, h1, h2, r1, r2, z1, z2, A0, B0, AB, R0, R5, len, q⟩ := h
    have hu := hu_of hr
    refine ⟨_, PSs.nox (pss_cons (ps_set (i := 2) scProducts.nd rfl (.inl rfl) pe_dnewK)
      (pss_cons (ps_lock (ps_for PassesOwn.never rfl (pi_items (pv 0)) (pg_tup rfl (pgs_cons (pg_name (i := 3) scProducts.nd rfl (.inl rfl)) (pgs_cons (pg_name (i := 4) scProducts.nd rfl (.inl rfl)) pgs_nil)))
        (pss_one (ps_lock (ps_for PassesOwn.never rfl (pi_items (pv 1)) (pg_tup rfl (pgs_cons (pg_name (i := 5) scProducts.nd rfl (.inl rfl)) (pgs_cons (pg_name (i := 6) scProducts.nd rfl (.inl rfl)) pgs_nil)))
          (pss_cons (ps_set (i := 7) scProducts.nd rfl (.inl rfl) (pe_call GS hr (by rfl) gS kS bS .nil pass0 (pa_cons (pv 3) (pa_cons (pv 5) pa_nil))))
          (pss_cons (ps_set (i := 8) scProducts.nd rfl (.inl rfl) (pe_op op_mulW (pe_op op_fdivNW (pv 3) (pv 7)) (pe_op op_fdivNW (pv 5) (pv 7))))
          (pss_one (ps_dput hu (pv 2) (pv 8) (pe_op op_add (pe_dget2 hu (pv 2) (pv 8) pe_int ⟨rfl, rfl, rfl, rfl⟩) (pe_op op_mulW (pe_op op_mulW (pv 4) (pv 6)) (pv 7))) rfl)))))))))
      (pss_one (ps_ret (pe_lock (pe_dc (own := [("root", 3), ("top", 4)]) (g := gTup K 2 (gCons (gName 3) (gCons (gName 4) gNil))) (tt := tTest (tOp rNe (tVar 4) (tC (.int 0)))) (tk := tVar 3) (tv := tVar 4) rfl scProducts.nd (pi_items (pv 2))
          (blkOk_by (N := ["tops", "others", "found", "root", "top", "by", "number", "common", "left"]) (sc := defScope sProducts) (by decide +kernel))
          (fun _ _ _ _ _ => pg_tup rfl (pgs_cons (pg_name (i := 3) scProducts.nd rfl (.inl rfl)) (pgs_cons (pg_name (i := 4) scProducts.nd rfl (.inl rfl)) pgs_nil))) (fun _ _ _ _ _ => pts_one (pt_cmpR op_ne (pv 4) pe_int (nomark _))) (fun _ _ _ _ _ => pv 3) (fun _ _ _ _ _ => pv 4))))))), ?_⟩
    obtain ⟨kv1, a1, a2, a3, a4, a5⟩ := id h1
    obtain ⟨kv2, b1, b2, b3, b4, b5⟩ := id h2
    have lk1 := len_keys a2
    have lk2 := len_keys b2
    intro p hp
    have smp := same_upd (o := .dK []) hp
    have np1 : p ≠ d1 := (ne_of_none a1 hp).symm
    have np2 : p ≠ d2 := (ne_of_none b1 hp).symm
    refine ⟨d1, .dK kv1, smp _ _ a1, trivial, fun o1 => ?_⟩
    refine ⟨_, rfl, d1, o1, kv1, rfl, upd_same, ?_⟩
    refine for_it (walk_items (d := d1) (o := o1) (kvs := kv1)) (fun i σ H' => ∃ (v3 v4 v5 v6 v7 v8 : Option V) (ks : List Int), σ = [some (.ref d1), some (.ref d2), some (.ref p), v3, v4, v5, v6, v7, v8] ∧ H' d1 = some (.frz o1 (.dK kv1)) ∧ (∀ b o, H b = some o → b ≠ d1 → H' b = some o) ∧
        IntD H' p ks (prodI (k1.take i) k2 t1 t2) ∧ ks.length ≤ i * k2.length ∧ (∀ u ∈ ks, ∃ r ∈ k1, ∃ s ∈ k2, u = mulR r s))
      ⟨none, none, none, none, none, none, [], rfl, upd_same, fun b o e hb => by rw [upd_ne hb]; exact smp _ _ e, ⟨[], by rw [upd_ne np1, upd_same], rfl, (fun r hr => by cases hr), List.nodup_nil, fun r _ => rfl⟩, Nat.zero_le _, (fun u hu => by cases hu)⟩ (fun i σ H' _ hP => ?_) (fun i x σ H' H2 hi hP hy => ?_) (fun σ H' hP => ?_)
    · obtain ⟨_, _, _, _, _, _, _, _, z, _⟩ := hP
      exact z
    · obtain ⟨T, x, y, rfl, hT, rfl, hx, hy⟩ := hy
      obtain ⟨v3, v4, v5, v6, v7, v8, ks, rfl, hf1, keep, hI, lks, sub⟩ := hP
      obtain ⟨r, hr', rfl, rfl⟩ := int_at a2 a3 a4 hx hy
      have rk : r ∈ k1 := List.mem_of_getElem? hr'
      have smT := same_upd (o := .tup [.int r, .int (t1 r)]) hT
      refine ⟨T, _, rfl, SqT.of upd_same, rfl, _, _, rfl, _, _, rfl, rfl, ?_⟩
      refine ⟨d2, .dK kv2, smT _ _ (keep _ _ b1 ndd.symm), trivial, fun o2 => ?_⟩
      refine ⟨_, rfl, d2, o2, kv2, rfl, upd_same, ?_⟩
      refine for_it (walk_items (d := d2) (o := o2) (kvs := kv2)) (fun j σ H3 => ∃ (v5 v6 v7 v8 : Option V) (ks : List Int), σ = [some (.ref d1), some (.ref d2), some (.ref p), some (.int r), some (.int (t1 r)), v5, v6, v7, v8] ∧ H3 d1 = some (.frz o1 (.dK kv1)) ∧ H3 d2 = some (.frz o2 (.dK kv2)) ∧ (∀ b o, H b = some o → b ≠ d1 → b ≠ d2 → H3 b = some o) ∧
          IntD H3 p ks (fun u => prodI (k1.take i) k2 t1 t2 u + rowI r (t1 r) (k2.take j) t2 u) ∧ ks.length ≤ i * k2.length + j ∧ (∀ u ∈ ks, ∃ r ∈ k1, ∃ s ∈ k2, u = mulR r s))
        ⟨v5, v6, v7, v8, ks, rfl, by rw [upd_ne ndd]; exact smT _ _ hf1, upd_same, fun b o e hb hb2 => by rw [upd_ne hb2]; exact smT _ _ (keep _ _ e hb), ((hI.same smT).upd np2).imp fun u => (Int.add_zero _).symm, by omega, sub⟩ (fun j σ H3 _ hP => ?_) (fun j x σ H3 H4 hj hP hy => ?_) (fun σ H3 hP => ?_)
      · obtain ⟨_, _, _, _, _, _, _, z, _⟩ := hP
        exact z
      · obtain ⟨T2, x, y, rfl, hT2, rfl, hx, hy⟩ := hy
        obtain ⟨v5, v6, v7, v8, ks, rfl, hf1', hf2', keep', hI', lks', sub'⟩ := hP
        obtain ⟨s, hs', rfl, rfl⟩ := int_at b2 b3 b4 hx hy
        have sk : s ∈ k2 := List.mem_of_getElem? hs'
        have il : j < k2.length := (List.getElem?_eq_some_iff.mp hs').1
        have il1 : i < k1.length := (List.getElem?_eq_some_iff.mp hr').1
        have smT2 := same_upd (o := .tup [.int s, .int (t2 s)]) hT2
        obtain ⟨r0, rR⟩ := r1 r rk
        obtain ⟨s0, sR⟩ := r2 s sk
        have gp : 0 < Int.gcd r s := Int.gcd_pos_iff.mpr (.inl (by omega))
        have gle : Int.gcd r s ≤ r.natAbs := Nat.le_of_dvd (by omega) (Int.gcd_dvd_natAbs_left r s)
        have gB : Int.gcd r s < 2 ^ R := Nat.lt_of_le_of_lt gle rR
        have gRB : (gR r s).natAbs < 2 ^ R := by
          unfold gR
          rw [Int.natAbs_natCast]
          exact gB
        have cdv' : ∀ z, CDivNW z (gR r s) := fun z => cdivn gp gB R0 (by omega)
        have fB : ∀ z : Int, 0 < z → z.natAbs < 2 ^ R → (z.fdiv (gR r s)).natAbs < 2 ^ R := fun z hz hzR => by
          have e : z = ((z.natAbs : Nat) : Int) := by omega
          rw [e]
          unfold gR
          rw [fdiv_nat, Int.natAbs_natCast]
          exact Nat.lt_of_le_of_lt (Nat.div_le_self ..) hzR
        refine ⟨T2, _, rfl, SqT.of upd_same, rfl, _, _, rfl, _, _, rfl, rfl, ?_⟩
        refine ⟨_, rfl, _, rfl, r, s, rfl, ?_⟩
        refine ⟨_, rfl, _, rfl, r, gR r s, rfl, rfl, cdv' _, _, rfl, _, rfl, s, gR r s, rfl, rfl, cdv' _, _, _, rfl, rfl, cmulw (fB r r0 rR) (fB s s0 sR) R0 R0 (by omega), ?_⟩
        obtain ⟨kvp, p1, p2, p3, p4, p5⟩ := hI'.same smT2
        have len9 : ks.length ≤ 900 := by
          have : (i + 1) * k2.length ≤ k1.length * k2.length := Nat.mul_le_mul_right _ il1
          rw [Nat.succ_mul] at this
          omega
        have got : ∃ o, DGet (upd H3 T2 (.tup [.int s, .int (t2 s)])) p (.int (mulR r s)) o ∧ o.getD (.int 0) = .int (prodI (k1.take i) k2 t1 t2 (mulR r s) + rowI r (t1 r) (k2.take j) t2 (mulR r s)) := by
          by_cases hk : mulR r s ∈ ks
          · exact ⟨_, dget_in p1 (p3 _ hk), rfl⟩
          · refine ⟨none, dget_out p1 (valV_out p2 hk), ?_⟩
            have z := p5 _ hk
            show V.int 0 = _
            rw [show prodI (k1.take i) k2 t1 t2 (mulR r s) + rowI r (t1 r) (k2.take j) t2 (mulR r s) = 0 from z]
        obtain ⟨o, dg, eo⟩ := got
        refine ⟨_, rfl, p, rfl, .inl ⟨_, .inl p1⟩, _, rfl, o, dg, ?_⟩
        rw [eo]
        refine ⟨_, rfl, _, rfl, t1 r, t2 s, rfl, rfl, cmulw (z1 r) (z2 s) A0 B0 (by omega), _, rfl, _, gR r s, rfl, rfl, cmulw (wide_lt (z1 r) (z2 s)) gRB (by omega) R0 (by omega), _, _, rfl, rfl, ?_⟩
        refine ⟨_, rfl, _, rfl, p, _, rfl, DPut.k (k := Sum.inl (mulR r s)) p1 (small1000 (by rw [len_keys p2]; omega)), ?_⟩
        have hfp : ∀ {b : Addr} {o : HO}, b ≠ p → (upd H3 T2 (.tup [.int s, .int (t2 s)])) b = some o → (upd (upd H3 T2 (.tup [.int s, .int (t2 s)])) p (.dK (putK kvp (Sum.inl (mulR r s)) (.int (prodI (k1.take i) k2 t1 t2 (mulR r s) + rowI r (t1 r) (k2.take j) t2 (mulR r s) + t1 r * t2 s * gR r s))))) b = some o := fun {b o} hb e => by
          rw [upd_ne hb]
          exact e
        refine ⟨_, _, _, _, addKey ks (mulR r s), rfl, hfp np1.symm (smT2 _ _ hf1'), hfp np2.symm (smT2 _ _ hf2'), fun b o e hb hb2 => hfp (ne_of_none e hp) (smT2 _ _ (keep' _ _ e hb hb2)), ?_, Nat.le_trans (addKey_len ks _) (by omega), fun u hu' => ?_⟩
        · refine (putI_ok (H := upd H3 T2 (.tup [.int s, .int (t2 s)])) (d := p) (r := mulR r s) p2 p3 p4 p5).imp fun u => ?_
          unfold setI
          show (if u = mulR r s then _ else prodI (k1.take i) k2 t1 t2 u + rowI r (t1 r) (k2.take j) t2 u) = prodI (k1.take i) k2 t1 t2 u + rowI r (t1 r) (k2.take (j + 1)) t2 u
          rw [rowI_succ hs' u]
          by_cases es : u = mulR r s
          · rw [if_pos es, if_pos es.symm, es, Int.add_assoc]
          · rw [if_neg es, if_neg fun z => es z.symm, Int.add_zero]
        · rcases mem_addKey.mp hu' with m | m
          · exact sub' u m
          · exact ⟨r, rk, s, sk, m⟩
      · obtain ⟨v5, v6, v7, v8, ks, rfl, hf1', hf2', keep', hI', lks', sub'⟩ := hP
        refine ⟨hf2', _, _, _, _, _, _, ks, rfl, by rw [upd_ne ndd]; exact hf1', fun b o e hb => ?_, (hI'.upd np2).imp fun u => ?_, ?_, sub'⟩
        · by_cases hb2 : b = d2
          · rw [hb2, upd_same]
            rw [hb2, b1] at e
            exact e
          · rw [upd_ne hb2]
            exact keep' _ _ e hb hb2
        · show _ + rowI r (t1 r) (k2.take kv2.length) t2 u = _
          rw [lk2, List.take_length, prodI_succ hr' u]
        · rw [Nat.succ_mul]
          omega
    · obtain ⟨v3, v4, v5, v6, v7, v8, ks, rfl, hf1, keep, hI, lks, sub⟩ := hP
      refine ⟨hf1, ?_⟩
      rw [lk1, List.take_length] at hI
      rw [lk1] at lks
      have smq : Same H (upd H' d1 (.dK kv1)) := fun b o e => by
        by_cases hb : b = d1
        · rw [hb, upd_same]
          rw [hb, a1] at e
          exact e
        · rw [upd_ne hb]
          exact keep _ _ e hb
      have hIq := hI.upd (o := .dK kv1) np1
      generalize upd H' d1 (.dK kv1) = Hq at smq hIq ⊢
      obtain ⟨kvp, p1, p2, p3, p4, p5⟩ := hIq
      have lkp := len_keys p2
      refine ⟨p, .dK kvp, p1, trivial, fun o3 => ?_⟩
      refine ⟨_, rfl, p, o3, kvp, rfl, upd_same, fun D hD => dc_it (walk_items (d := p) (o := o3) (kvs := kvp)) (fun i H2 => (∀ b o, Hq b = some o → b ≠ p → H2 b = some o) ∧ H2 p = some (.frz o3 (.dK kvp)) ∧ ∃ ks', IntD H2 D ks' (fun u => if u ∈ ks.take i then prodI k1 k2 t1 t2 u else 0) ∧ ks'.length ≤ i ∧ ∀ u ∈ ks', u ∈ ks) ?_ (fun i H2 _ hP => hP.2.1) (fun i x H2 H3 hi hP hy => ?_) (fun H2 hP => ?_)⟩
      · have nDp : p ≠ D := ne_of_none (upd_same (H := Hq) (a := p) (o := .frz o3 (.dK kvp))) hD
        refine ⟨fun b o e hb => ?_, by rw [upd_ne nDp]; exact upd_same, [], ⟨[], upd_same, rfl, (fun r hr => by cases hr), List.nodup_nil, fun r _ => by simp⟩, Nat.le_refl _, (fun u hu => by cases hu)⟩
        exact same_upd hD _ _ (by rw [upd_ne hb]; exact e)
      · obtain ⟨T3, x, y, rfl, hT3, rfl, hx, hy⟩ := hy
        obtain ⟨keep3, hfp, ks', hI3, l3, sub3⟩ := hP
        obtain ⟨u, hu', rfl, rfl⟩ := int_at p2 p3 p4 hx hy
        have uk : u ∈ ks := List.mem_of_getElem? hu'
        have iu : i < ks.length := (List.getElem?_eq_some_iff.mp hu').1
        have sm3 := same_upd (o := .tup [.int u, .int (prodI k1 k2 t1 t2 u)]) hT3
        have nDp : p ≠ D := fun z => by
          obtain ⟨kvD, q1, _⟩ := hI3
          rw [← z, hfp] at q1
          cases q1
        refine ⟨T3, _, rfl, SqT.of upd_same, rfl, _, _, rfl, _, _, rfl, rfl, rfl, ?_⟩
        refine ⟨_, rfl, rfl, _, rfl, ?_⟩
        by_cases hz : prodI k1 k2 t1 t2 u = 0
        · refine iteNS (congrArg V.int hz) ?_
          refine ⟨fun b o e hb => sm3 _ _ (keep3 _ _ e hb), sm3 _ _ hfp, ks', (hI3.same sm3).imp fun s => ?_, Nat.le_succ_of_le l3, sub3⟩
          show (if s ∈ ks.take i then prodI k1 k2 t1 t2 s else 0) = (if s ∈ ks.take (i + 1) then prodI k1 k2 t1 t2 s else 0)
          by_cases m : s ∈ ks.take i
          · rw [if_pos m, if_pos ((mem_take_succ hu').mpr (.inl m))]
          · rw [if_neg m]
            by_cases es : s = u
            · rw [es, hz]
              split <;> rfl
            · rw [if_neg fun z => ((mem_take_succ hu').mp z).elim m es]
        · refine iteNT (ine hz) ?_
          obtain ⟨kvD, q1, q2, q3, q4, q5⟩ := hI3.same sm3
          refine ⟨_, rfl, _, rfl, kvD, Sum.inl u, rfl, q1, small1000 (by rw [len_keys q2]; omega), fun b o e hb => ?_, ?_, addKey ks' u, (putI_ok (r := u) q2 q3 q4 q5).imp fun s => ?_, Nat.le_trans (addKey_len ks' u) (by omega), fun s hs => ?_⟩
          · have nb : b ≠ D := fun z => by
              rw [z] at e hb
              have := (by rw [upd_ne hb]; exact e : (upd Hq p (.frz o3 (.dK kvp))) D = some o)
              rw [hD] at this
              cases this
            rw [upd_ne nb]
            exact sm3 _ _ (keep3 _ _ e hb)
          · rw [upd_ne nDp]
            exact sm3 _ _ hfp
          · unfold setI
            show (if s = u then _ else if s ∈ ks.take i then prodI k1 k2 t1 t2 s else 0) = (if s ∈ ks.take (i + 1) then prodI k1 k2 t1 t2 s else 0)
            by_cases es : s = u
            · rw [if_pos es, if_pos ((mem_take_succ hu').mpr (.inr es)), es]
            · rw [if_neg es]
              by_cases m : s ∈ ks.take i
              · rw [if_pos m, if_pos ((mem_take_succ hu').mpr (.inl m))]
              · rw [if_neg m, if_neg fun z => ((mem_take_succ hu').mp z).elim m es]
          · rcases mem_addKey.mp hs with m | m
            · exact sub3 s m
            · rw [m]
              exact uk
      · obtain ⟨keep3, hfp, ks', hI3, l3, sub3⟩ := hP
        have nDp : D ≠ p := fun z => by
          obtain ⟨kvD, q1, _⟩ := hI3
          rw [z, hfp] at q1
          cases q1
        refine ⟨hfp, q D ks' _ (fun b o e => ?_) ?_ ((hI3.upd nDp).imp fun u => ?_) (by omega) fun u hu' => sub u (sub3 u hu')⟩
        · rw [upd_ne (ne_of_none e hp)]
          exact keep3 _ _ (smq _ _ e) (ne_of_none e hp)
        · refine smq.free ?_
          have z := hD
          rw [upd_ne nDp] at z
          exact z
        · show (if u ∈ ks.take kvp.length then prodI k1 k2 t1 t2 u else 0) = _
          rw [lkp, List.take_length]
          by_cases m : u ∈ ks
          · rw [if_pos m]
          · rw [if_neg m, p5 u m]
end
end TC
namespace TC
open PySem PySem.Spec PyProof.Rows L2 TCA
/-! ### products of numbers, as fractions -/
def sumQ : List Rat → Rat
  | [] => 0
  | a :: l => a + sumQ l
/-- the product at a root, by the roots of both -/
def prodG (k1 k2 : List Int) (g1 g2 : Int → Rat) (u : Int) : Rat := sumQ (k1.map fun r => sumQ (k2.map fun s => if mulR r s = u then g1 r * g2 s * ((gR r s : Int) : Rat) else 0))
/-- the tops over one bottom D -/
def topsG (g : Int → Rat) (D : Nat) (r : Int) : Int := (g r).num * ((D / (g r).den : Nat) : Int)
theorem topsG_div {g : Int → Rat} {c : Nat} (hc : 0 < c) (r : Int) (h : (g r).den ∣ c) : Rat.divInt (topsG g c r) (c : Int) = g r := by
  have dp := (g r).den_pos
  have d0 : ((g r).den : Int) ≠ 0 := by omega
  have c0 : ((c : Nat) : Int) ≠ 0 := by omega
  have e : Rat.divInt (topsG g c r) (c : Int) = Rat.divInt (g r).num ((g r).den : Int) := by
    rw [Rat.divInt_eq_divInt_iff c0 d0]
    unfold topsG
    rw [Int.mul_assoc]
    congr 1
    rw [← Int.natCast_mul, Nat.div_mul_cancel h]
  rw [e, Rat.num_divInt_den]
theorem divInt_add {d : Int} (hd : d ≠ 0) (a b : Int) : Rat.divInt (a + b) d = Rat.divInt a d + Rat.divInt b d := by
  rw [Rat.divInt_add_divInt a b hd hd, Rat.divInt_eq_divInt_iff hd (Int.mul_ne_zero hd hd), ← Int.add_mul, Int.mul_assoc]
theorem sum_div {α : Type} {d : Int} (hd : d ≠ 0) {f : α → Int} {g : α → Rat} : ∀ {l : List α}, (∀ a ∈ l, Rat.divInt (f a) d = g a) → Rat.divInt (sumI (l.map f)) d = sumQ (l.map g)
  | [], _ => Rat.zero_divInt d
  | a :: l, h => by
    show Rat.divInt (f a + sumI (l.map f)) d = g a + sumQ (l.map g)
    rw [divInt_add hd, h a (List.mem_cons_self ..), sum_div hd fun b hb => h b (List.mem_cons_of_mem _ hb)]
theorem divInt_of_one (g : Int) : Rat.divInt g 1 = (g : Rat) := by
  rw [Rat.divInt_eq_div]
  grind
theorem term_div (a b g c1 c2 : Int) : Rat.divInt (a * b * g) (c1 * c2) = Rat.divInt a c1 * Rat.divInt b c2 * (g : Rat) := by
  rw [← divInt_of_one g, Rat.divInt_mul_divInt, Rat.divInt_mul_divInt, Int.mul_one]
theorem row_divG {k2 : List Int} {g1 g2 : Int → Rat} {c1 c2 : Nat} (h1 : 0 < c1) (h2 : 0 < c2) (d1 : ∀ r, (g1 r).den ∣ c1) (d2 : ∀ r, (g2 r).den ∣ c2) (r u : Int) :
    Rat.divInt (rowI r (topsG g1 c1 r) k2 (topsG g2 c2) u) ((c1 : Int) * (c2 : Int)) = sumQ (k2.map fun s => if mulR r s = u then g1 r * g2 s * ((gR r s : Int) : Rat) else 0) := by
  have c0 : (c1 : Int) * (c2 : Int) ≠ 0 := Int.mul_ne_zero (by omega) (by omega)
  unfold rowI
  refine sum_div c0 fun s hs => ?_
  by_cases e : mulR r s = u
  · rw [if_pos e, if_pos e, term_div, topsG_div h1 r (d1 r), topsG_div h2 s (d2 s)]
  · rw [if_neg e, if_neg e, Rat.zero_divInt]
theorem prod_divG {k1 k2 : List Int} {g1 g2 : Int → Rat} {c1 c2 : Nat} (h1 : 0 < c1) (h2 : 0 < c2) (d1 : ∀ r, (g1 r).den ∣ c1) (d2 : ∀ r, (g2 r).den ∣ c2) (u : Int) :
    Rat.divInt (prodI k1 k2 (topsG g1 c1) (topsG g2 c2) u) ((c1 : Int) * (c2 : Int)) = prodG k1 k2 g1 g2 u := by
  have c0 : (c1 : Int) * (c2 : Int) ≠ 0 := Int.mul_ne_zero (by omega) (by omega)
  unfold prodI prodG
  exact sum_div c0 fun r hr => row_divG h1 h2 d1 d2 r u
theorem den_divInt {t : Int} {c : Nat} (hc : 0 < c) : (Rat.divInt t (c : Int)).den ∣ c := by
  have e2 := congrArg Prod.snd (TCR.low_rat t (c : Int) (by omega))
  have es : TCM.sgn t (c : Int) = ((Int.gcd t (c : Int) : Nat) : Int) := if_neg (by omega)
  have e3 : (c : Int).fdiv ((Int.gcd t (c : Int) : Nat) : Int) = ((Rat.divInt t (c : Int)).den : Int) := by
    rw [← es]
    exact e2
  rw [fdiv_nat] at e3
  have e4 : c / Int.gcd t (c : Int) = (Rat.divInt t (c : Int)).den := Int.ofNat.inj e3
  rw [← e4]
  exact Nat.div_dvd_of_dvd (by
    have := Int.gcd_dvd_natAbs_right t (c : Int)
    rwa [Int.natAbs_natCast] at this)
theorem sumI_le {α : Type} {K : Nat} {f : α → Int} : ∀ {l : List α}, (∀ a ∈ l, (f a).natAbs ≤ K) → (sumI (l.map f)).natAbs ≤ l.length * K
  | [], _ => Nat.zero_le _
  | a :: l, h => by
    have e1 := h a (List.mem_cons_self ..)
    have e2 := sumI_le (f := f) fun b hb => h b (List.mem_cons_of_mem _ hb)
    show (f a + sumI (l.map f)).natAbs ≤ (l.length + 1) * K
    rw [Nat.succ_mul]
    omega
theorem prodI_le {k1 k2 : List Int} {t1 t2 : Int → Int} {K : Nat} (h : ∀ r ∈ k1, ∀ s ∈ k2, (t1 r * t2 s * gR r s).natAbs ≤ K) (u : Int) : (prodI k1 k2 t1 t2 u).natAbs ≤ k1.length * k2.length * K := by
  rw [Nat.mul_assoc]
  refine sumI_le fun r hr => sumI_le fun s hs => ?_
  split
  · exact h r hr s hs
  · exact Nat.zero_le _
theorem tops_lt {L : List Part} {c A B : Nat} (hc : c < 2 ^ B) (zA : ∀ r, (TCR.val L r).num.natAbs < 2 ^ A) (r : Int) : (topsOf L c r).natAbs < 2 ^ (A + B) := wide_lt (zA r) (by rw [Int.natAbs_natCast]; exact Nat.lt_of_le_of_lt (Nat.div_le_self ..) hc)
/-- how large a number's parts are: bottoms that divide D, tops and roots below a power of 2 -/
structure Fit (D A R : Nat) (L : List Part) : Prop where
  can : TCR.Canon L
  den : ∀ x ∈ L, x.2.den ∣ D
  num : ∀ x ∈ L, x.2.num.natAbs < 2 ^ A
  pos : ∀ x ∈ L, 0 < x.1 ∧ x.1.natAbs < 2 ^ R
theorem Fit.val {D A R : Nat} {L : List Part} (h : Fit D A R L) (r : Int) : (TCR.val L r).num.natAbs < 2 ^ A := by
  rcases Classical.em (∃ q, (r, q) ∈ L) with ⟨q, z⟩ | z
  · rw [h.can.mem z]
    exact h.num _ z
  · rw [TCR.val_not fun x hx e => z ⟨x.2, by rw [← e]; exact hx⟩]
    exact Nat.pow_pos (by decide)
section
variable {P : Program} {w : World} {K : PySem.W.Frag} {mg : Str → Option Value} {base : Heap} {f : Addr} {fd : FuncData} {C fI fQ : Addr}
/-! ### times -/
def spTimes (C : Addr) : Sp := fun vs H Q _ => ∃ (x y : Addr) (L M : List Part) (D1 D2 A1 A2 B1 B2 R : Nat), vs = [.ref x, .ref y] ∧ NumAt C H x L ∧ NumAt C H y M ∧ Fit D1 A1 R L ∧ Fit D2 A2 R M ∧ 0 < D1 ∧ 0 < D2 ∧ D1 < 2 ^ B1 ∧ D2 < 2 ^ B2 ∧ 0 < A1 ∧ 0 < A2 ∧ 0 < B1 ∧ 0 < B2 ∧ B1 + B2 ≤ 8000 ∧ A1 + A2 ≤ 20000 ∧ 0 < R ∧ R ≤ 5000 ∧
  L.length ≤ 60 ∧ M.length ≤ 60 ∧ L.length * M.length ≤ 900 ∧
  ∀ z N H', Same H H' → H z = none → NumAt C H' z N → Fit (D1 * D2) (A1 + B1 + (A2 + B2) + R + 10) (R + R) N → (∀ u, TCR.val N u = prodG (L.map (·.1)) (M.map (·.1)) (TCR.val L) (TCR.val M) u) → N.length ≤ L.length * M.length → Q (.ref z) H'
theorem scTimes : FnScope ["one", "other", "tops", "bottom", "others", "below"] ["one", "other"] (defScope sTimes) := ⟨rfl, rfl, rfl, by decide +kernel, rfl, by decide +kernel, by decide +kernel⟩
theorem fdiv_pos {z g : Int} (hz : 0 < z) (hg : 0 < g) (h : g ∣ z) : 0 < z.fdiv g := by
  obtain ⟨k, rfl⟩ := h
  rw [Int.mul_fdiv_cancel_left _ (by omega)]
  rcases Int.lt_trichotomy 0 k with h | h | h
  · exact h
  · rw [← h] at hz
    omega
  · have := Int.mul_neg_of_pos_of_neg hg h
    omega
theorem mulR_pos {r s : Int} {R : Nat} (hr : 0 < r) (hs : 0 < s) (zr : r.natAbs < 2 ^ R) (zs : s.natAbs < 2 ^ R) : 0 < mulR r s ∧ (mulR r s).natAbs < 2 ^ (R + R) := by
  have gp : 0 < Int.gcd r s := Int.gcd_pos_iff.mpr (.inl (by omega))
  have gp' : 0 < gR r s := by
    unfold gR
    omega
  have fB : ∀ z : Int, 0 < z → z.natAbs < 2 ^ R → (z.fdiv (gR r s)).natAbs < 2 ^ R := fun z hz hzR => by
    have e : z = ((z.natAbs : Nat) : Int) := by omega
    rw [e]
    unfold gR
    rw [fdiv_nat, Int.natAbs_natCast]
    exact Nat.lt_of_le_of_lt (Nat.div_le_self ..) hzR
  exact ⟨Int.mul_pos (fdiv_pos hr gp' (Int.gcd_dvd_left ..)) (fdiv_pos hs gp' (Int.gcd_dvd_right ..)), wide_lt (fB r hr zr) (fB s hs zs)⟩
theorem ok_times {fN fO fP fW : Addr} {fdN fdO fdP fdW : FuncData} (F : FnP K "times" sTimes f fd) (T : TxtN K mg C fI fQ) (GN : FnOk P w K mg base CX0 1 fN fdN ["thing"] (spNeed C)) (bN : L2.Binds K fdN ["thing"] []) (kN : PySem.W.keepIn K (.ref fN) = true) (gN : mg "need_exact" = some (.ref fN))
    (GO : FnOk P w K mg base CX0 2 fO fdO ["parts"] spOneB) (bO : L2.Binds K fdO ["parts"] []) (kO : PySem.W.keepIn K (.ref fO) = true) (gO : mg "on_one_bottom" = some (.ref fO))
    (GP : FnOk P w K mg base CX0 2 fP fdP ["tops", "others"] spProducts) (bP : L2.Binds K fdP ["tops", "others"] []) (kP : PySem.W.keepIn K (.ref fP) = true) (gP : mg "products" = some (.ref fP))
    (GW : FnOk P w K mg base CX0 3 fW fdW ["tops", "bottom"] (spLowered C)) (bW : L2.Binds K fdW ["tops", "bottom"] []) (kW : PySem.W.keepIn K (.ref fW) = true) (gW : mg "lowered" = some (.ref fW)) :
    FnOk P w K mg base CX0 4 f fd ["one", "other"] (spTimes C) := by
  refine F.ok scTimes (fun vs H Q E h => ?_) (fun cdv Ar outer s H vs Q E hr h => ?_)
  · obtain ⟨x, y, L, M, D1, D2, A1, A2, B1, B2, R, rfl, _⟩ := h
    rfl
  · obtain ⟨x, y, L, M, D1, D2, A1, A2, B1, B2, R, rfl, hx, hy, fL, fM, D10, D20, z1, z2, A10, A20, B10, B20, BB, AA, R0, R5, l1, l2, l12, q⟩ := h
    have hr1 := hr.mono (j := 1) (by decide)
    have hr2 := hr.mono (j := 2) (by decide)
    refine ⟨_, PSs.nox (pss_cons (ps_expr (pe_call GN hr1 (by rfl) gN kN bN .nil pass0 (pa_cons (pv 0) pa_nil)))
      (pss_cons (ps_expr (pe_call GN hr1 (by rfl) gN kN bN .nil pass0 (pa_cons (pv 1) pa_nil)))
      (pss_cons (ps_asg (pe_call GO hr2 (by rfl) gO kO bO .nil pass0 (pa_cons (pe_fld (pv 0) rfl) pa_nil)) (pg_tup rfl (pgs_cons (pg_name (i := 2) scTimes.nd rfl (.inl rfl)) (pgs_cons (pg_name (i := 3) scTimes.nd rfl (.inl rfl)) pgs_nil))))
      (pss_cons (ps_asg (pe_call GO hr2 (by rfl) gO kO bO .nil pass0 (pa_cons (pe_fld (pv 1) rfl) pa_nil)) (pg_tup rfl (pgs_cons (pg_name (i := 4) scTimes.nd rfl (.inl rfl)) (pgs_cons (pg_name (i := 5) scTimes.nd rfl (.inl rfl)) pgs_nil))))
      (pss_one (ps_ret (pe_call GW hr (by rfl) gW kW bW .nil pass0 (pa_cons (pe_call GP hr2 (by rfl) gP kP bP .nil pass0 (pa_cons (pv 2) (pa_cons (pv 4) pa_nil))) (pa_cons (pe_op op_mulW (pv 3) (pv 5)) pa_nil))))))))), ?_⟩
    refine ⟨_, rfl, x, L, rfl, hx, ?_⟩
    refine ⟨_, rfl, y, M, rfl, hy, ?_⟩
    obtain ⟨dx, p1, hx1, hp1⟩ := id hx
    obtain ⟨dy, p2, hy1, hp2⟩ := id hy
    refine ⟨_, rfl, x, C, dx, _, _, rfl, hx1, T.cl, T.nP, rfl, p1, L, D1, A1, B1, rfl, hp1, fL.can, fL.den, D10, z1, B10, by omega, fL.num, A10, by omega, l1, fun v1 d1 c1 H1 s1 hv1 ev1 hd1 i1 c10 c1D c1d => ?_⟩
    refine ⟨v1, _, rfl, SqT.of ev1, rfl, _, _, rfl, _, _, rfl, rfl, ?_⟩
    refine ⟨_, rfl, y, C, dy, _, _, rfl, s1 _ _ hy1, T.cl, T.nP, rfl, p2, M, D2, A2, B2, rfl, hp2.same s1, fM.can, fM.den, D20, z2, B20, by omega, fM.num, A20, by omega, l2, fun v2 d2 c2 H2 s2 hv2 ev2 hd2 i2 c20 c2D c2d => ?_⟩
    refine ⟨v2, _, rfl, SqT.of ev2, rfl, _, _, rfl, _, _, rfl, rfl, ?_⟩
    have c1B : c1 < 2 ^ B1 := Nat.lt_of_le_of_lt (Nat.le_of_dvd D10 c1D) z1
    have c2B : c2 < 2 ^ B2 := Nat.lt_of_le_of_lt (Nat.le_of_dvd D20 c2D) z2
    have ndd : d1 ≠ d2 := by
      obtain ⟨_, z, _⟩ := i1
      exact ne_of_none z hd2
    have kp : ∀ {N : List Part} {D A : Nat}, Fit D A R N → ∀ r ∈ N.map (·.1), 0 < r ∧ r.natAbs < 2 ^ R := fun {N D A} h r hr => by
      obtain ⟨z, hz, e⟩ := List.mem_map.mp hr
      rw [← e]
      exact h.pos z hz
    have tl1 := tops_lt c1B fL.val
    have tl2 := tops_lt c2B fM.val
    refine ⟨_, rfl, _, rfl, d1, d2, L.map (·.1), M.map (·.1), _, _, A1 + B1, A2 + B2, R, rfl, ndd, i1.same s2, i2, kp fL, kp fM, tl1, tl2, by omega, by omega, by omega, R0, R5, by rw [List.length_map, List.length_map]; exact l12, fun d ks H3 s3 hd i3 lk sub => ?_⟩
    rw [List.length_map, List.length_map] at lk
    have b0 : (c1 : Int) * (c2 : Int) ≠ 0 := Int.mul_ne_zero (by omega) (by omega)
    have n1 : ((c1 : Nat) : Int).natAbs < 2 ^ B1 := by rw [Int.natAbs_natCast]; exact c1B
    have n2 : ((c2 : Nat) : Int).natAbs < 2 ^ B2 := by rw [Int.natAbs_natCast]; exact c2B
    refine ⟨_, rfl, _, rfl, (c1 : Int), (c2 : Int), rfl, rfl, cmulw n1 n2 B10 B20 (by omega), ?_⟩
    refine ⟨d, ks, _, _, B1 + B2, rfl, i3, b0, wide_lt n1 n2, by omega, BB, by omega, fun z N H4 s4 hz hN cN vN lN => ?_⟩
    have vQ : ∀ u, TCR.val N u = prodG (L.map (·.1)) (M.map (·.1)) (TCR.val L) (TCR.val M) u := fun u => (vN u).trans (prod_divG (g1 := TCR.val L) (g2 := TCR.val M) c10 c20 (den_val c1d fL.can) (den_val c2d fM.can) u)
    refine q z N H4 (((s1.trans s2).trans s3).trans s4) ((((s1.trans s2).trans s3)).free hz) hN ⟨cN, fun e he => ?_, fun e he => ?_, fun e he => ?_⟩ vQ (Nat.le_trans lN lk)
    · rw [← cN.mem he, vN e.1, ← Int.natCast_mul]
      exact Nat.dvd_trans (den_divInt (Nat.mul_pos c10 c20)) (Nat.mul_dvd_mul c1D c2D)
    · rw [← cN.mem he, vN e.1]
      have lo := (TCM.low_abs (prodI (L.map (·.1)) (M.map (·.1)) (topsOf L c1) (topsOf M c2) e.1) _ b0).1
      rw [TCR.low_rat _ _ b0] at lo
      refine Nat.lt_of_le_of_lt lo ?_
      have bt : ∀ r ∈ L.map (·.1), ∀ s ∈ M.map (·.1), (topsOf L c1 r * topsOf M c2 s * gR r s).natAbs ≤ 2 ^ (A1 + B1 + (A2 + B2) + R) := fun r hr s hs => by
        refine Nat.le_of_lt (wide_lt (wide_lt (tl1 r) (tl2 s)) ?_)
        unfold gR
        rw [Int.natAbs_natCast]
        obtain ⟨r0, rR⟩ := kp fL r hr
        exact Nat.lt_of_le_of_lt (Nat.le_of_dvd (by omega) (Int.gcd_dvd_natAbs_left r s)) rR
      refine Nat.lt_of_le_of_lt (prodI_le bt e.1) ?_
      rw [List.length_map, List.length_map, Nat.pow_add 2 _ 10, Nat.mul_comm]
      exact Nat.mul_lt_mul_of_pos_left (show L.length * M.length < 2 ^ 10 by omega) (Nat.pow_pos (by decide))
    · have nz : TCR.val N e.1 ≠ 0 := by
        rw [cN.mem he]
        exact cN.nz e he
      have uk : e.1 ∈ ks := Classical.byContradiction fun m => nz (by
        rw [vN e.1]
        obtain ⟨_, _, _, _, _, out⟩ := i3
        rw [out e.1 m, Rat.zero_divInt])
      obtain ⟨r, hr', s, hs', eu⟩ := sub e.1 uk
      obtain ⟨r0, rR⟩ := kp fL r hr'
      obtain ⟨s0, sR⟩ := kp fM s hs'
      rw [eu]
      exact mulR_pos r0 s0 rR sR
end
end TC
namespace TC
/-! ### facts of the product, as fractions -/
theorem sumQ_zero {α : Type} {f : α → Rat} : ∀ {l : List α}, (∀ a ∈ l, f a = 0) → sumQ (l.map f) = 0
  | [], _ => rfl
  | a :: l, h => by
    show f a + sumQ (l.map f) = 0
    rw [h a (List.mem_cons_self ..), sumQ_zero fun b hb => h b (List.mem_cons_of_mem _ hb)]
    grind
theorem sumQ_add {α : Type} (f g : α → Rat) : ∀ l : List α, sumQ (l.map fun a => f a + g a) = sumQ (l.map f) + sumQ (l.map g)
  | [] => by show (0 : Rat) = 0 + 0; grind
  | a :: l => by
    show f a + g a + sumQ (l.map fun a => f a + g a) = f a + sumQ (l.map f) + (g a + sumQ (l.map g))
    rw [sumQ_add f g l]
    grind
theorem sumQ_mul {α : Type} (c : Rat) (f : α → Rat) : ∀ l : List α, sumQ (l.map fun a => c * f a) = c * sumQ (l.map f)
  | [] => by show (0 : Rat) = c * 0; grind
  | a :: l => by
    show c * f a + sumQ (l.map fun a => c * f a) = c * (f a + sumQ (l.map f))
    rw [sumQ_mul c f l]
    grind
theorem sumQ_congr {α : Type} {f g : α → Rat} {l : List α} (h : ∀ a ∈ l, f a = g a) : sumQ (l.map f) = sumQ (l.map g) := by
  rw [List.map_congr_left h]
theorem sumQ_swap {α β : Type} (f : α → β → Rat) (m : List β) : ∀ l : List α, sumQ (l.map fun a => sumQ (m.map fun b => f a b)) = sumQ (m.map fun b => sumQ (l.map fun a => f a b))
  | [] => (sumQ_zero fun b _ => rfl).symm
  | a :: l => by
    show sumQ (m.map fun b => f a b) + sumQ (l.map fun a => sumQ (m.map fun b => f a b)) = sumQ (m.map fun b => f a b + sumQ (l.map fun a => f a b))
    rw [sumQ_add (fun b => f a b) (fun b => sumQ (l.map fun a => f a b)) m, sumQ_swap f m l]
theorem sumQ_perm {l m : List Rat} (h : l.Perm m) : sumQ l = sumQ m := by
  induction h with
  | nil => rfl
  | cons a _ ih =>
    show a + _ = a + _
    rw [ih]
  | swap a b l =>
    show b + (a + sumQ l) = a + (b + sumQ l)
    grind
  | trans _ _ h1 h2 => exact h1.trans h2
theorem sumQ_filter {f : Int → Rat} : ∀ l : List Int, sumQ (l.map f) = sumQ ((l.filter fun r => decide (f r ≠ 0)).map f)
  | [] => rfl
  | a :: l => by
    rw [List.filter_cons]
    by_cases h : f a = 0
    · rw [if_neg (by simp [h])]
      show f a + sumQ (l.map f) = _
      rw [h, sumQ_filter l]
      grind
    · rw [if_pos (by simp [h])]
      show f a + sumQ (l.map f) = f a + sumQ ((l.filter fun r => decide (f r ≠ 0)).map f)
      rw [sumQ_filter l]
theorem sum_supp {k k' : List Int} {f : Int → Rat} (nd : k.Nodup) (nd' : k'.Nodup) (h : ∀ r, f r ≠ 0 → r ∈ k) (h' : ∀ r, f r ≠ 0 → r ∈ k') : sumQ (k.map f) = sumQ (k'.map f) := by
  rw [sumQ_filter k, sumQ_filter k']
  refine sumQ_perm (List.Perm.map f ((List.perm_ext_iff_of_nodup (nd.filter _) (nd'.filter _)).mpr fun r => ?_))
  rw [List.mem_filter, List.mem_filter]
  refine ⟨fun z => ⟨h' r (of_decide_eq_true z.2), z.2⟩, fun z => ⟨h r (of_decide_eq_true z.2), z.2⟩⟩
theorem sum_pick {k : List Int} {f : Int → Rat} (nd : k.Nodup) (u : Int) (h : f u ≠ 0 → u ∈ k) : sumQ (k.map fun r => if r = u then f r else 0) = f u := by
  have z := sum_supp (k' := [u]) (f := fun r => if r = u then f r else 0) nd (by simp) (fun r hr => ?_) (fun r hr => ?_)
  · rw [z]
    show (if u = u then f u else 0) + 0 = f u
    rw [if_pos rfl]
    grind
  · by_cases e : r = u
    · rw [e]
      refine h fun z => hr ?_
      rw [e, if_pos rfl]
      exact z
    · exact absurd (if_neg e) hr
  · by_cases e : r = u
    · exact List.mem_singleton.mpr e
    · exact absurd (if_neg e) hr
/-- where a function's support lies -/
def Cov (g : Int → Rat) (k : List Int) : Prop := k.Nodup ∧ ∀ r, g r ≠ 0 → r ∈ k
theorem prodG_supp {k1 k1' k2 k2' : List Int} {g1 g2 : Int → Rat} (h1 : Cov g1 k1) (h1' : Cov g1 k1') (h2 : Cov g2 k2) (h2' : Cov g2 k2') (u : Int) : prodG k1 k2 g1 g2 u = prodG k1' k2' g1 g2 u := by
  have inner : ∀ r, sumQ (k2.map fun s => if mulR r s = u then g1 r * g2 s * ((gR r s : Int) : Rat) else 0) = sumQ (k2'.map fun s => if mulR r s = u then g1 r * g2 s * ((gR r s : Int) : Rat) else 0) := fun r => by
    have nz : ∀ s, (if mulR r s = u then g1 r * g2 s * ((gR r s : Int) : Rat) else 0) ≠ 0 → g2 s ≠ 0 := fun s hs e => hs (by
      split
      · rw [e]
        grind
      · rfl)
    exact sum_supp h2.1 h2'.1 (fun s hs => h2.2 s (nz s hs)) fun s hs => h2'.2 s (nz s hs)
  unfold prodG
  rw [sumQ_congr fun r _ => inner r]
  have nz : ∀ r, sumQ (k2'.map fun s => if mulR r s = u then g1 r * g2 s * ((gR r s : Int) : Rat) else 0) ≠ 0 → g1 r ≠ 0 := fun r hr e => hr (sumQ_zero fun s _ => by
    split
    · rw [e]
      grind
    · rfl)
  exact sum_supp h1.1 h1'.1 (fun r hr => h1.2 r (nz r hr)) fun r hr => h1'.2 r (nz r hr)
theorem gR_comm (r s : Int) : gR r s = gR s r := by
  unfold gR
  rw [Int.gcd_comm]
theorem mulR_comm (r s : Int) : mulR r s = mulR s r := by
  unfold mulR
  rw [gR_comm r s, Int.mul_comm]
theorem prodG_comm (k1 k2 : List Int) (g1 g2 : Int → Rat) (u : Int) : prodG k1 k2 g1 g2 u = prodG k2 k1 g2 g1 u := by
  unfold prodG
  rw [sumQ_swap]
  refine sumQ_congr fun s _ => sumQ_congr fun r _ => ?_
  rw [mulR_comm r s, gR_comm r s, Rat.mul_comm (g1 r) (g2 s)]
theorem prodG_add (k1 k2 : List Int) (g1 g2 h2 : Int → Rat) (u : Int) : prodG k1 k2 g1 (fun s => g2 s + h2 s) u = prodG k1 k2 g1 g2 u + prodG k1 k2 g1 h2 u := by
  unfold prodG
  rw [← sumQ_add]
  refine sumQ_congr fun r _ => ?_
  rw [← sumQ_add]
  refine sumQ_congr fun s _ => ?_
  split <;> grind
theorem prodG_zero (k1 k2 : List Int) (g1 g2 : Int → Rat) (u : Int) (h : ∀ s, g2 s = 0) : prodG k1 k2 g1 g2 u = 0 := by
  refine sumQ_zero fun r _ => sumQ_zero fun s _ => ?_
  rw [h s]
  split <;> grind
theorem mulR_one {r : Int} (h : 0 < r) : mulR r 1 = r ∧ gR r 1 = 1 := by
  have e : gR r 1 = 1 := by
    unfold gR
    rw [Int.gcd_one_right]
    rfl
  refine ⟨?_, e⟩
  unfold mulR
  rw [e, Int.fdiv_one, Int.fdiv_one, Int.mul_one]
/-- times a fraction -/
theorem prodG_one {k : List Int} {g : Int → Rat} (c : Rat) (hk : Cov g k) (pos : ∀ r ∈ k, 0 < r) (u : Int) : prodG k [1] g (fun s => if s = 1 then c else 0) u = c * g u := by
  have z : prodG k [1] g (fun s => if s = 1 then c else 0) u = sumQ (k.map fun r => if r = u then c * g r else 0) := by
    refine sumQ_congr fun r hr => ?_
    obtain ⟨e1, e2⟩ := mulR_one (pos r hr)
    show (if mulR r 1 = u then g r * (if (1 : Int) = 1 then c else 0) * ((gR r 1 : Int) : Rat) else 0) + 0 = _
    rw [e1, e2, if_pos rfl]
    split <;> grind
  rw [z]
  exact sum_pick (f := fun r => c * g r) hk.1 u fun h => hk.2 u fun e => h (by
    show c * g u = 0
    rw [e]
    grind)
/-- a number by its twin has no root left that p divides -/
theorem prodG_twin {k : List Int} {g : Int → Rat} {p u : Int} (ep : ∀ r ∈ k, ∀ s ∈ k, mulR r s = u → ((r % p = 0) ↔ ¬ (s % p = 0))) : prodG k k g (fun s => g s * (if s % p = 0 then -1 else 1)) u = 0 := by
  have e1 := prodG_comm k k g (fun s => g s * (if s % p = 0 then -1 else 1)) u
  have e2 : prodG k k g (fun s => g s * (if s % p = 0 then -1 else 1)) u + prodG k k (fun s => g s * (if s % p = 0 then -1 else 1)) g u = 0 := by
    unfold prodG
    rw [← sumQ_add]
    refine sumQ_zero fun r hr => ?_
    show sumQ _ + sumQ _ = 0
    rw [← sumQ_add]
    refine sumQ_zero fun s hs => ?_
    show (if mulR r s = u then _ else (0 : Rat)) + (if mulR r s = u then _ else 0) = 0
    by_cases e : mulR r s = u
    · rw [if_pos e, if_pos e]
      show g r * (g s * (if s % p = 0 then (-1 : Rat) else 1)) * ((gR r s : Int) : Rat) + g r * (if r % p = 0 then (-1 : Rat) else 1) * g s * ((gR r s : Int) : Rat) = 0
      have := ep r hr s hs e
      by_cases a : r % p = 0
      · rw [if_pos a, if_neg (this.mp a)]
        grind
      · have b : s % p = 0 := Classical.byContradiction fun z => a (this.mpr z)
        rw [if_neg a, if_pos b]
        grind
    · rw [if_neg e, if_neg e]
      grind
  grind
end TC
namespace TC
open PySem PySem.Spec PyProof.Rows L2 TCA
section
variable {K : PySem.W.Frag} {x qual : Str} {params : Arguments} {body : List Stmt} {scope : Scope} {kws : List (Str × V)} {f : Addr} {fd : FuncData} {ps : List Str}
/-- a call with keywords of a def without other defaults -/
theorem kbinds0 (F : FunD K x qual params body scope [] kws f fd) (n : Nat) (ks : List Str) (ms : List (Str × V)) (g : {α : Type} → List α → List α → List α → List α) (hk : kws ≠ []) (hms : ∀ q ∈ ms, q ∈ kws)
    (hrel : ∀ {vs mz zs : List V} {us mv ws : List Value}, Vals vs us → Vals mz mv → Vals zs ws → Vals (g vs mz zs) (g us mv ws))
    (h : ∀ (D : Addr) (doc pm : Value) (an : Option Addr) (cdv ct : Value) (us mv ws : List Value), us.length = n → mv.length = ms.length → ws.length = ks.length →
      KwChain D ((ms.map (·.1)).zip mv) (bindArgs (PySem.W.fnOf x qual params body scope .none (.ref D) doc pm an cdv ct) ⟨us, ks.zip ws⟩) (ps.zip (g us mv ws))) :
    ∃ mv : List Value, KBn K fd ps n ks (fun us ws => g us mv ws) (fun vs zs => g vs (ms.map (·.2)) zs) := by
  obtain ⟨oc, od, dV, kV, doc, pm, an, cdv, ct, osl, rfl, lk, hcd, hD, hK⟩ := F.ex
  rcases hD with ⟨_, rfl⟩ | ⟨e, _⟩
  · rcases hK with e | ⟨D, rfl, hq⟩
    · exact absurd e hk
    · obtain ⟨mv, hl, rk, hks⟩ := kwd_vals (ms := ms) fun q hm => hq q (hms q hm)
      refine ⟨mv, ⟨fun s us ws X l1 l2 => ?_, fun r1 r2 => hrel r1 rk r2⟩⟩
      exact BindsTo.of_looks fun M => KwChain.looks X hks (h D doc pm an cdv ct us mv ws l1 hl l2)
  · exact absurd rfl e
end
theorem Vals.rev : ∀ {xs : List V} {us : List Value}, Vals xs us → Vals xs.reverse us.reverse
  | _, _, .nil => .nil
  | _, _, .cons r t => by
    rw [List.reverse_cons, List.reverse_cons]
    exact (Vals.rev t).append (.cons r .nil)
section
variable {K : PySem.W.Frag} {f : Addr} {fd : FuncData}
theorem bE0 (F : FnE K f fd) : ∃ ds, Vals [.int 1, .int 1] ds ∧ L2.Binds K fd psE ds :=
  F.binds0 1 (by intro z; cases z) rfl fun D doc pm an cdv ct us ks h1 h2 => match us, ks, h1, h2 with
    | [_], [_, _], _, _ => ⟨_, _, _, _, _, _, rfl, rfl, ⟨_, _, _, _, _, _, rfl, rfl, rfl⟩⟩
theorem bEbr (F : FnE K f fd) : ∃ mv : List Value, KBn K fd psE 1 ["bottom", "root"] (fun us ws => us ++ ws) (fun vs zs => vs ++ zs) := by
  obtain ⟨mv, h⟩ := kbinds0 F (ps := psE) 1 ["bottom", "root"] [] (fun us _ ws => us ++ ws) (by intro z; cases z) (fun q hq => by cases hq) (fun a _ c => a.append c) fun D doc pm an cdv ct us mv ws h1 h2 h3 => match us, mv, ws, h1, h2, h3 with
    | [_], [], [_, _], _, _, _ => rfl
  exact ⟨mv, h⟩
theorem bErb (F : FnE K f fd) : ∃ mv : List Value, KBn K fd psE 1 ["root", "bottom"] (fun us ws => us ++ ws.reverse) (fun vs zs => vs ++ zs.reverse) := by
  obtain ⟨mv, h⟩ := kbinds0 F (ps := psE) 1 ["root", "bottom"] [] (fun us _ ws => us ++ ws.reverse) (by intro z; cases z) (fun q hq => by cases hq) (fun a _ c => a.append (Vals.rev c)) fun D doc pm an cdv ct us mv ws h1 h2 h3 => match us, mv, ws, h1, h2, h3 with
    | [_], [], [_, _], _, _, _ => rfl
  exact ⟨mv, h⟩
end
theorem val_one (r s : Int) (q : Rat) : TCR.val [(r, q)] s = if s = r then q else 0 := by
  show (if r = s then q else 0) = _
  by_cases h : s = r
  · rw [if_pos h, if_pos h.symm]
  · rw [if_neg h, if_neg fun z => h z.symm]
theorem val_oneL (r t b s : Int) : TCR.val (oneL r t b) s = if s = r then Rat.divInt t b else 0 := by
  unfold oneL
  by_cases h : t = 0
  · rw [if_pos h, h, divInt_zero]
    split <;> rfl
  · rw [if_neg h, val_one]
theorem good_oneL {A : Nat} {r t b : Int} (hb : b ≠ 0) (h1 : t.natAbs < 2 ^ A) (h2 : b.natAbs < 2 ^ A) : Good A (oneL r t b) := by
  unfold oneL
  by_cases h : t = 0
  · rw [if_pos h]
    exact Good.nil
  · rw [if_neg h]
    exact ⟨TCR.canon_one (divInt_ne hb h), fun x hx => by
      rw [List.mem_singleton.mp hx]
      exact TCR.Sz.divInt hb h1 h2⟩
theorem len_oneL (r t b : Int) : (oneL r t b).length ≤ 1 := by
  unfold oneL
  split
  · exact Nat.zero_le _
  · exact Nat.le_refl _
theorem len_ex (t b r : Int) : (exL t b r).length ≤ 1 := len_oneL ..
theorem canon_oneL {r t b : Int} (hb : b ≠ 0) : TCR.Canon (oneL r t b) := by
  unfold oneL
  by_cases h : t = 0
  · rw [if_pos h]
    exact TCR.canon_nil
  · rw [if_neg h]
    exact TCR.canon_one (divInt_ne hb h)
section
variable {P : Program} {w : World} {K : PySem.W.Frag} {mg : Str → Option Value} {base : Heap} {f : Addr} {fd : FuncData} {C fI fQ : Addr}
/-! ### exact -/
def spExact (C : Addr) : Sp := fun vs H Q _ => ∃ (t b r : Int) (A : Nat), vs = [.int t, .int b, .int r] ∧ b ≠ 0 ∧ b.natAbs < 2 ^ A ∧ 0 < A ∧ A ≤ 8000 ∧ RootOk r ∧ ∀ x H', Same H H' → H x = none → NumAt C H' x (exL t b r) → Q (.ref x) H'
theorem scExact : FnScope ["top", "bottom", "root", "outside", "inside", "rest"] ["top", "bottom", "root"] (defScope sExact) := ⟨rfl, rfl, rfl, by decide +kernel, rfl, by decide +kernel, by decide +kernel⟩
theorem ok_exact {fW fSq fLw : Addr} {fdW fdSq fdLw : FuncData} {tH : Tok} (F : FnE K f fd) (GW : FnOk P w K mg base CX0 1 fW fdW ["thing"] spWhole) (bW : L2.Binds K fdW ["thing"] []) (kW : PySem.W.keepIn K (.ref fW) = true) (gW : mg "is_whole" = some (.ref fW))
    (GSq : FnOk P w K mg base CX0 1 fSq fdSq ["number"] spSquares) (bSq : L2.Binds K fdSq ["number"] []) (kSq : PySem.W.keepIn K (.ref fSq) = true) (gSq : mg "squares_out" = some (.ref fSq))
    (GLw : FnOk P w K mg base CX0 3 fLw fdLw ["tops", "bottom"] (spLowered C)) (bLw : L2.Binds K fdLw ["tops", "bottom"] []) (kLw : PySem.W.keepIn K (.ref fLw) = true) (gLw : mg "lowered" = some (.ref fLw))
    (gH : mg "HIGHEST_ROOT" = some (.int 1000000 tH)) : FnOk P w K mg base CX0 4 f fd psE (spExact C) := by
  refine F.ok scExact (fun vs H Q E h => ?_) (fun cdv A outer s H vs Q E hr h => ?_)
  · obtain ⟨t, b, r, _, rfl, _⟩ := h
    rfl
  · obtain ⟨t, b, r, A8, rfl, hb, hz, A0, A88, ⟨R0, R1, a1, a2, a3⟩, q⟩ := h
    have hr1 := hr.mono (j := 1) (by decide)
    refine ⟨_, PSs.nox (pss_cons (ps_if (pt_not (PW.pt (pw_and (pt_val (pe_call GW hr1 (by rfl) gW kW bW .nil pass0 (pa_cons (pv 0) pa_nil))) (pw_and (pt_val (pe_call GW hr1 (by rfl) gW kW bW .nil pass0 (pa_cons (pv 1) pa_nil))) (pw_and (pt_val (pe_call GW hr1 (by rfl) gW kW bW .nil pass0 (pa_cons (pv 2) pa_nil)))
        (pw_and1 (pt_chain op_le op_le pe_int (pv 2) (pe_glob (v := .int 1000000) (by rfl) gH ⟨_, rfl⟩)))))))) pss_never pss_nil)
      (pss_cons (ps_asg (pe_call GSq hr1 (by rfl) gSq kSq bSq .nil pass0 (pa_cons (pv 2) pa_nil)) (pg_tup rfl (pgs_cons (pg_name (i := 3) scExact.nd rfl (.inl rfl)) (pgs_cons (pg_name (i := 4) scExact.nd rfl (.inl rfl)) (pgs_cons (pg_name (i := 5) scExact.nd rfl (.inl rfl)) pgs_nil)))))
      (pss_cons (ps_if (pt_cmpR op_ne (pv 5) pe_int (nomark _)) pss_never pss_nil)
      (pss_cons (ps_if (pt_cmpR op_eq (pv 1) pe_int (nomark _)) pss_never pss_nil)
      (pss_one (ps_ret (pe_call GLw hr (by rfl) gLw kLw bLw .nil pass0 (pa_cons (pe_disp (pps_cons (pv 4) (pe_op op_mul (pv 0) (pv 3)) pps_nil) rfl rfl (by intro z; cases z) (by decide)) (pa_cons (pv 1) pa_nil))))))))), ?_⟩
    refine ⟨_, rfl, t, rfl, true, rfl, iteT ?_⟩
    refine ⟨_, rfl, b, rfl, true, rfl, iteT ?_⟩
    refine ⟨_, rfl, r, rfl, true, rfl, iteT ?_⟩
    refine ⟨_, rfl, 0, r, rfl, rfl, _, rfl, iteD1 R0 ?_⟩
    refine ⟨r, 1000000, rfl, rfl, _, rfl, iteNS R1 ?_⟩
    refine ⟨_, rfl, r, rfl, R0, R1, fun p H1 sm1 hp e1 => ?_⟩
    refine ⟨p, _, rfl, SqT.of e1, rfl, _, _, rfl, _, _, rfl, _, _, rfl, rfl, ?_⟩
    refine ⟨_, rfl, rfl, _, rfl, iteNS (congrArg V.int a1) ?_⟩
    refine ⟨_, rfl, rfl, _, rfl, iteD0 (ine hb) ?_⟩
    intro d hd
    refine ⟨_, rfl, _, rfl, _, rfl, t, _, rfl, rfl, .inr ⟨by omega, by omega⟩, upd_same, [(Sum.inl _, _)], rfl, by show 1 ≤ 15; decide, ?_⟩
    rw [upd_upd]
    have sm2 := same_upd (o := .dK (mergeK [] [((Sum.inl (TCM.sqOut r).2.1 : Key), V.int (t * (TCM.sqOut r).1))])) hd
    have hI : IntD (upd H1 d (.dK (mergeK [] [((Sum.inl (TCM.sqOut r).2.1 : Key), V.int (t * (TCM.sqOut r).1))]))) d [(TCM.sqOut r).2.1] (fun s => if s = (TCM.sqOut r).2.1 then t * (TCM.sqOut r).1 else 0) := by
      refine ⟨_, upd_same, rfl, fun s hs => ?_, by simp, fun s hs => if_neg fun z => hs (List.mem_singleton.mpr z)⟩
      rw [List.mem_singleton.mp hs]
      show valV [((Sum.inl (TCM.sqOut r).2.1 : Key), V.int (t * (TCM.sqOut r).1))] (Sum.inl (TCM.sqOut r).2.1) = some (V.int (if (TCM.sqOut r).2.1 = (TCM.sqOut r).2.1 then t * (TCM.sqOut r).1 else 0))
      rw [if_pos rfl]
      exact valV_pos rfl
    refine ⟨_, rfl, d, _, _, b, A8, rfl, hI, hb, hz, A0, A88, by show 1 ≤ 900; decide, fun x N H' sm3 hx hN cN vN lN => ?_⟩
    have eN : N = exL t b r := TCR.canon_eq cN (canon_oneL hb) fun s => by
      rw [vN]
      unfold exL
      rw [val_oneL]
      split
      · rfl
      · exact divInt_zero b
    rw [eN] at hN
    exact q x H' ((sm1.trans sm2).trans sm3) ((sm1.trans sm2).free hx) hN
end
end TC
namespace TC
set_option exponentiation.threshold 100000
open PySem PySem.Spec PyProof.Rows L2 TCA
theorem shr_half (h s : Nat) : h / 2 ^ (s + 1) = h / 2 ^ s / 2 := by
  rw [Nat.pow_succ, Nat.div_div_eq_div_mul]
theorem bits_nat (h : Nat) : Builtin.Int.intBits (h : Int) = if h = 0 then 0 else h.log2 + 1 := by
  unfold Builtin.Int.intBits
  by_cases e : h = 0
  · subst e
    rfl
  · rw [if_neg e, if_neg]
    · rfl
    · intro z
      have := eq_of_beq z
      omega
/-- the numbers of one turn -/
theorem turn_known {h bl i : Nat} (hb : bl = Builtin.Int.intBits (h : Int)) (hi : i < bl) : h / 2 ^ (bl - i) + 1 ≤ h / 2 ^ (bl - 1 - i) ∧ h / 2 ^ (bl - 1 - i) ≤ h := by
  rw [bits_nat] at hb
  have h0 : h ≠ 0 := by
    intro z
    rw [if_pos z] at hb
    omega
  rw [if_neg h0] at hb
  have e : bl - i = (bl - 1 - i) + 1 := by omega
  rw [e, shr_half]
  have h1 : 1 ≤ h / 2 ^ (bl - 1 - i) := by
    rw [Nat.le_div_iff_mul_le (Nat.pow_pos (by decide)), Nat.one_mul]
    refine Nat.le_trans (Nat.pow_le_pow_right (by decide) (show bl - 1 - i ≤ h.log2 by omega)) (Nat.log2_self_le h0)
  exact ⟨by omega, Nat.div_le_self ..⟩
theorem near_next {near n : Int} {k A B : Nat} {m : Nat} (h0 : 0 < near) (h1 : near < 2 ^ A) (hn0 : 0 ≤ n) (hn : n < 2 ^ B) (hB : B ≤ A) : 0 < near * 2 ^ k + n / 2 ^ m / near ∧ near * 2 ^ k + n / 2 ^ m / near < 2 ^ (A + k + 1) := by
  have p1 : (1 : Int) ≤ 2 ^ k := Int.pow_pos (by decide)
  have a1 : 0 ≤ n / 2 ^ m := Int.ediv_nonneg hn0 (Int.le_of_lt (Int.pow_pos (by decide)))
  have a2 : 0 ≤ n / 2 ^ m / near := Int.ediv_nonneg a1 (by omega)
  have a3 : n / 2 ^ m ≤ n := Int.ediv_le_self _ hn0
  have a4 : n / 2 ^ m / near ≤ n / 2 ^ m := Int.ediv_le_self _ a1
  have b1 : 0 < near * 2 ^ k := Int.mul_pos h0 (by omega)
  have b2 : near * 2 ^ k < 2 ^ (A + k) := by
    rw [Int.pow_add]
    exact Int.mul_lt_mul_of_pos_right h1 (by omega)
  have b3 : (2 : Int) ^ B ≤ 2 ^ (A + k) := by
    have := Nat.pow_le_pow_right (show 0 < 2 by decide) (show B ≤ A + k by omega)
    exact_mod_cast this
  have e : (2 : Int) ^ (A + k + 1) = 2 ^ (A + k) * 2 := Int.pow_succ ..
  omega
theorem int_pow_cast (A : Nat) : ((2 ^ A : Nat) : Int) = 2 ^ A := by
  rw [Int.natCast_pow]
  rfl
theorem abs_of_lt {x : Int} {A : Nat} (h0 : 0 ≤ x) (h : x < 2 ^ A) : x.natAbs < 2 ^ A := by
  have := int_pow_cast A
  omega
theorem lt_of_abs {x : Int} {A : Nat} (h : x.natAbs < 2 ^ A) : x < 2 ^ A := by
  have := int_pow_cast A
  omega
section
variable {P : Program} {w : World} {K : PySem.W.Frag} {mg : Str → Option Value} {base : Heap} {f : Addr} {fd : FuncData} {C fI fQ : Addr}
/-! ### floor_root: not below 0 -/
def spFloor : Sp := fun vs H Q _ => ∃ n : Int, vs = [.int n] ∧ 0 ≤ n ∧ n < 2 ^ 800 ∧ ∀ m H', Same H H' → 0 ≤ m → Q (.int m) H'
theorem scFloor : FnScope ["number", "half", "near", "known", "step", "before"] ["number"] (defScope sFloor) := ⟨rfl, rfl, rfl, by decide +kernel, rfl, by decide +kernel, by decide +kernel⟩
theorem ok_floor (F : FnP K "floor_root" sFloor f fd) (gv : mg "reversed" = none) (gr : mg "range" = none) : FnOk P w K mg base CX0 1 f fd ["number"] spFloor := by
  refine F.ok scFloor (fun vs H Q E h => ?_) (fun cdv A outer s H vs Q E hr h => ?_)
  · obtain ⟨a, rfl, _⟩ := h
    rfl
  · obtain ⟨n, rfl, h0, h1, q⟩ := h
    refine ⟨_, PSs.nox (pss_cons (ps_if (pt_cmpR op_eq (pv 0) pe_int (nomark _)) (pss_one (ps_ret pe_int)) pss_nil)
      (pss_cons (ps_set (i := 1) scFloor.nd rfl (.inl rfl) (pe_op op_fdiv (pe_op op_sub (pe_bits (pv 0)) pe_int) pe_int))
      (pss_cons (ps_asg (pe_tup (pa_cons pe_int (pa_cons pe_int pa_nil))) (pg_tup rfl (pgs_cons (pg_name (i := 2) scFloor.nd rfl (.inl rfl)) (pgs_cons (pg_name (i := 3) scFloor.nd rfl (.inl rfl)) pgs_nil))))
      (pss_cons (ps_for PassesOwn.never rfl (pi_revR (by rfl) gv (prg_1 (by rfl) gr (pe_bits (pv 1)))) (pg_name (i := 4) scFloor.nd rfl (.inl rfl))
        (pss_cons (ps_set (i := 5) scFloor.nd rfl (.inl rfl) (pv 3))
        (pss_cons (ps_set (i := 3) scFloor.nd rfl (.inl rfl) (pe_op op_shrN (pv 1) (pv 4)))
        (pss_one (ps_set (i := 2) scFloor.nd rfl (.inl rfl) (pe_op op_add (pe_op op_shlN (pv 2) (pe_op op_sub (pe_op op_sub (pv 3) (pv 5)) pe_int)) (pe_op op_fdivW (pe_op op_shrN (pv 0) (pe_op op_add (pe_op op_sub (pe_op op_sub (pe_op op_mul pe_int (pv 1)) (pv 5)) (pv 3)) pe_int)) (pv 2))))))))
      (pss_one (ps_ret (pe_ifExp (pt_cmpR op_gt (pe_op op_mulW (pv 2) (pv 2)) (pv 0) (nomark _)) (pe_op op_sub (pv 2) pe_int) (pv 2)))))))), ?_⟩
    refine ⟨_, rfl, rfl, _, rfl, ?_⟩
    by_cases hn : n = 0
    · subst hn
      exact iteD1 rfl (q 0 H (Same.refl _) (Int.le_refl _))
    refine iteD0 (ine hn) ?_
    have hL0 : 1 ≤ Builtin.Int.intBits n := by
      unfold Builtin.Int.intBits
      rw [if_neg (fun z => hn (eq_of_beq z))]
      omega
    have hL1 : Builtin.Int.intBits n ≤ 800 := intBits_le (abs_of_lt h0 h1)
    obtain ⟨h, eh⟩ : ∃ h : Nat, ((Builtin.Int.intBits n : Nat) - 1 : Int) / 2 = (h : Int) := ⟨(Builtin.Int.intBits n - 1) / 2, by omega⟩
    have hh : h ≤ 400 := by omega
    refine ⟨_, rfl, n, rfl, _, 1, rfl, rfl, _, 2, rfl, rfl, ⟨by decide, by decide⟩, ?_⟩
    dsimp only
    rw [eh]
    refine ⟨by show 2 ≤ sizeLine; decide, fun c hc => ?_⟩
    refine ⟨c, _, rfl, SqT.of upd_same, rfl, _, _, rfl, _, _, rfl, rfl, ?_⟩
    have sm1 : Same H (upd H c (.tup [.int 1, .int 0])) := same_upd hc
    obtain ⟨bl, ebl⟩ : ∃ bl, bl = Builtin.Int.intBits (h : Int) := ⟨_, rfl⟩
    have hbl : bl ≤ 9 := by
      rw [ebl]
      exact intBits_le (k := 9) (show h < 2 ^ 9 by omega)
    refine ⟨_, rfl, (h : Int), rfl, _, rfl, by decide, by decide, by omega, by omega, ?_⟩
    rw [← ebl, show ((bl : Int) - 0).toNat = bl by omega]
    refine for_rangeC (fun i σ H' => ∃ (near : Int) (st be : Option V), σ = [some (.int n), some (.int (h : Int)), some (.int near), some (.int ((h / 2 ^ (bl - i) : Nat) : Int)), st, be] ∧ H' = upd H c (.tup [.int 1, .int 0]) ∧ 0 < near ∧ near < 2 ^ (800 + 401 * i)) ?_ (fun i σ H' hi hP => ?_) (fun σ H' hP => ?_)
    · refine ⟨1, none, none, ?_, rfl, by decide, Int.lt_of_lt_of_le (show (1 : Int) < 2 ^ 1 by decide) ?_⟩
      · have e0 : h / 2 ^ (bl - 0) = 0 := by
          refine Nat.div_eq_of_lt ?_
          rw [ebl, bits_nat]
          split
          · rename_i z
            rw [z]
            decide
          · exact Nat.lt_log2_self
        rw [e0]
        rfl
      · have := Nat.pow_le_pow_right (show 0 < 2 by decide) (show 1 ≤ 800 + 401 * 0 by omega)
        exact_mod_cast this
    · obtain ⟨near, st, be, rfl, rfl, n0, n1⟩ := hP
      obtain ⟨k1, k2⟩ := turn_known ebl hi
      obtain ⟨kn, ekn⟩ : ∃ kn, kn = h / 2 ^ (bl - i) := ⟨_, rfl⟩
      obtain ⟨kp, ekp⟩ : ∃ kp, kp = h / 2 ^ (bl - 1 - i) := ⟨_, rfl⟩
      have estep : (0 : Int) + (bl : Int) - 1 + (i : Nat) * (-1) = ((bl - 1 - i : Nat) : Int) := by omega
      rw [estep, ← ekn]
      rw [← ekn, ← ekp] at k1
      rw [← ekp] at k2
      refine ⟨_, rfl, ?_⟩
      refine ⟨_, rfl, _, rfl, _, _, rfl, rfl, ?_⟩
      have ediv : (h : Int) / 2 ^ (bl - 1 - i) = (kp : Int) := by
        rw [ekp, Int.natCast_ediv, Int.natCast_pow]
        rfl
      dsimp only
      rw [ediv]
      have e1 : (kp : Int) - (kn : Int) - 1 = ((kp - kn - 1 : Nat) : Int) := by omega
      have e2 : (2 : Int) * (h : Int) - (kn : Int) - (kp : Int) + 1 = ((2 * h - kn - kp + 1 : Nat) : Int) := by omega
      obtain ⟨b1, b2⟩ := near_next (k := kp - kn - 1) (m := 2 * h - kn - kp + 1) n0 n1 h0 h1 (by omega)
      refine ⟨_, rfl, _, rfl, _, rfl, _, _, rfl, rfl, _, 1, rfl, rfl, near, kp - kn - 1, rfl, congrArg V.int e1, shl_ok (n := 800 + 401 * i) (abs_of_lt (Int.le_of_lt n0) n1) (by omega), ?_⟩
      refine ⟨_, rfl, _, rfl, 2, (h : Int), rfl, rfl, .inl ⟨by decide, by decide⟩, _, rfl, _, _, rfl, rfl, _, rfl, _, _, rfl, rfl, _, 1, rfl, rfl, n, 2 * h - kn - kp + 1, rfl, congrArg V.int e2, _, rfl, _, near, rfl, rfl, ⟨n0, log_lt (n := 800 + 401 * i) (by omega) (by omega) (abs_of_lt (Int.le_of_lt n0) n1)⟩, _, _, rfl, rfl, ?_⟩
      refine ⟨_, some (.int ((bl - 1 - i : Nat) : Int)), some (.int (kn : Int)), ?_, rfl, b1, Int.lt_of_lt_of_le b2 ?_⟩
      · rw [show bl - (i + 1) = bl - 1 - i by omega, ← ekp]
        rfl
      · have := Nat.pow_le_pow_right (show 0 < 2 by decide) (show 800 + 401 * i + (kp - kn - 1) + 1 ≤ 800 + 401 * (i + 1) by omega)
        exact_mod_cast this
    · obtain ⟨near, st, be, rfl, rfl, n0, n1⟩ := hP
      have nb : near.natAbs < 2 ^ (800 + 401 * bl) := abs_of_lt (Int.le_of_lt n0) n1
      refine ⟨_, rfl, _, rfl, near, near, rfl, rfl, cmulw nb nb (by omega) (by omega) (by omega), _, rfl, _, _, rfl, rfl, _, rfl, ?_⟩
      refine ite2 (fun _ => ?_) (fun _ => ?_)
      · exact ⟨_, rfl, near, 1, rfl, rfl, q _ _ sm1 (by omega)⟩
      · exact ⟨_, rfl, q _ _ sm1 (by omega)⟩
/-! ### bounds of one part above 0 -/
def spBounds : Sp := fun vs H Q _ => ∃ (p : Addr) (x : Part), vs = [.ref p, .int 64] ∧ PartsL H p [x] ∧ 0 < x.1 ∧ x.1 < 2 ^ 410 ∧ 0 < x.2.num ∧ x.2.num < 2 ^ 110 ∧ x.2.den < 2 ^ 500 ∧ ∀ c lo hi H', Same H H' → 0 ≤ lo → H' c = some (.tup [.int lo, .int hi]) → Q (.ref c) H'
theorem scBounds : FnScope ["parts", "bits", "low", "high", "root", "top", "bottom", "near"] ["parts", "bits"] (defScope sBounds) := ⟨rfl, rfl, rfl, by decide +kernel, rfl, by decide +kernel, by decide +kernel⟩
theorem ok_bounds {fR : Addr} {fdR : FuncData} (F : FnP K "bounds" sBounds f fd) (GR : FnOk P w K mg base CX0 1 fR fdR ["number"] spFloor) (bR : L2.Binds K fdR ["number"] []) (kR : PySem.W.keepIn K (.ref fR) = true) (gR : mg "floor_root" = some (.ref fR)) : FnOk P w K mg base CX0 2 f fd ["parts", "bits"] spBounds := by
  refine F.ok scBounds (fun vs H Q E h => ?_) (fun cdv A outer s H vs Q E hr h => ?_)
  · obtain ⟨a, x, rfl, _⟩ := h
    rfl
  · obtain ⟨p, x, rfl, hx, r0, r1, t0, t1, d1, q⟩ := h
    refine ⟨_, PSs.nox (pss_cons (ps_asg (pe_tup (pa_cons pe_int (pa_cons pe_int pa_nil))) (pg_tup rfl (pgs_cons (pg_name (i := 2) scBounds.nd rfl (.inl rfl)) (pgs_cons (pg_name (i := 3) scBounds.nd rfl (.inl rfl)) pgs_nil))))
      (pss_cons (ps_for PassesOwn.never rfl (pi_tup (pv 0)) (pg_tup rfl (pgs_cons (pg_name (i := 4) scBounds.nd rfl (.inl rfl)) (pgs_cons (pg_name (i := 5) scBounds.nd rfl (.inl rfl)) (pgs_cons (pg_name (i := 6) scBounds.nd rfl (.inl rfl)) pgs_nil))))
        (pss_cons (ps_set (i := 7) scBounds.nd rfl (.inl rfl) (pe_op op_fdivW (pe_call GR hr (by rfl) gR kR bR .nil pass0 (pa_cons (pe_op op_shlN (pe_op op_mulW (pe_op op_mulW (pv 5) (pv 5)) (pv 4)) (pe_op op_mul pe_int (pv 1))) pa_nil)) (pv 6)))
        (pss_one (ps_if (pt_cmpR op_gt (pv 5) pe_int (nomark _))
          (pss_cons (ps_aug (i := 2) scBounds.nd rfl (.inl rfl) (pv 7) iop_add) (pss_one (ps_aug (i := 3) scBounds.nd rfl (.inl rfl) (pe_op op_add (pv 7) pe_int) iop_add))) pss_never))))
      (pss_one (ps_ret (pe_tup (pa_cons (pv 2) (pa_cons (pv 3) pa_nil))))))), ?_⟩
    refine ⟨by show 2 ≤ sizeLine; decide, fun c hc => ?_⟩
    refine ⟨c, _, rfl, SqT.of upd_same, rfl, _, _, rfl, _, _, rfl, rfl, ?_⟩
    have sm1 : Same H (upd H c (.tup [.int 0, .int 0])) := same_upd hc
    obtain ⟨us, hp, hr2⟩ := hx
    have hl : us.length = 1 := hr2.len
    refine ⟨_, rfl, p, rfl, ⟨_, SqT.of (sm1 _ _ hp)⟩, for_tup (xs := us.map V.ref) (fun j σ H' => Same H H' ∧ ∃ (lo hi : Int) (a b c d : Option V), σ = [some (.ref p), some (.int 64), some (.int lo), some (.int hi), a, b, c, d] ∧ 0 ≤ lo)
      ⟨sm1, 0, 0, none, none, none, none, rfl, Int.le_refl _⟩ (fun j σ H' _ hP => SqT.of (hP.1 _ _ hp)) (fun j y σ H' hy hP => ?_) (fun σ H' hP => ?_)⟩
    · obtain ⟨sm, lo, hi, a, b, c2, d, rfl, l0⟩ := hP
      obtain ⟨u, z, rfl, hu', hz, hzv⟩ := (hr2.same sm).get hy
      have ez : z = x := by
        cases j with
        | zero => exact (Option.some.inj hz).symm
        | succ j => cases hz
      subst ez
      refine ⟨u, _, rfl, SqT.of hzv, rfl, _, _, rfl, _, _, rfl, _, _, rfl, rfl, ?_⟩
      have tb : z.2.num.natAbs < 2 ^ 110 := abs_of_lt (Int.le_of_lt t0) t1
      have rb : z.1.natAbs < 2 ^ 410 := abs_of_lt (Int.le_of_lt r0) r1
      have t2 : z.2.num * z.2.num < 2 ^ 220 := by
        have := Int.mul_lt_mul' (Int.le_of_lt t1) t1 (Int.le_of_lt t0) (by decide)
        exact Int.lt_of_lt_of_le this (by decide)
      have t20 : 0 < z.2.num * z.2.num := Int.mul_pos t0 t0
      have t3 : z.2.num * z.2.num * z.1 < 2 ^ 630 := by
        have := Int.mul_lt_mul' (Int.le_of_lt t2) r1 (Int.le_of_lt r0) (by decide)
        exact Int.lt_of_lt_of_le this (by decide)
      have t30 : 0 < z.2.num * z.2.num * z.1 := Int.mul_pos t20 r0
      have t4 : z.2.num * z.2.num * z.1 * 2 ^ 128 < 2 ^ 800 := by
        have := Int.mul_lt_mul_of_pos_right t3 (show (0 : Int) < 2 ^ 128 by decide)
        exact Int.lt_of_lt_of_le this (by decide)
      refine ⟨_, rfl, _, rfl, _, _, rfl, rfl, cmulw tb tb (by decide) (by decide) (by decide), _, rfl, _, _, rfl, rfl, cmulw (abs_of_lt (Int.le_of_lt t20) t2) rb (by decide) (by decide) (by decide), _, rfl, 2, 64, rfl, rfl, .inl ⟨by decide, by decide⟩, _, 128, rfl, rfl, shl_ok (n := 630) (abs_of_lt (Int.le_of_lt t30) t3) (by decide), ?_⟩
      refine ⟨_, rfl, Int.le_of_lt (Int.mul_pos t30 (by decide)), t4, fun m H2 sm2 m0 => ?_⟩
      have dp : 0 < (z.2.den : Int) := by
        have := z.2.den_pos
        omega
      refine ⟨_, rfl, m, _, rfl, rfl, ⟨dp, log_lt (n := 500) (by decide) (by decide) d1⟩, ?_⟩
      have k0 : 0 ≤ m / (z.2.den : Int) := Int.ediv_nonneg m0 (Int.le_of_lt dp)
      refine ⟨_, rfl, _, 0, rfl, rfl, _, rfl, iteD1 t0 ?_⟩
      refine ⟨_, rfl, _, rfl, lo, _, rfl, rfl, ?_⟩
      refine ⟨_, rfl, _, rfl, _, 1, rfl, rfl, hi, _, rfl, rfl, ?_⟩
      exact ⟨sm.trans sm2, _, _, _, _, _, _, rfl, by omega⟩
    · obtain ⟨sm, lo, hi, a, b, c2, d, rfl, l0⟩ := hP
      exact ⟨_, rfl, _, rfl, by show 2 ≤ sizeLine; decide, fun c hc => q c lo hi _ (sm.trans (same_upd hc)) l0 upd_same⟩
end
end TC
/-! repr of lists of ints; the end of a law whose own def asks repr. -/
namespace TCX
open PySem PySem.Spec PyProof.Rows L2
/-! ### data of lists of ints -/
def dInts (ns : List Int) : List PyData := ns.map PyData.int
theorem dpAll_ints {K : PySem.W.Frag} {H : Hp} : ∀ ns : List Int, DpAll K H (ns.map V.int) (dInts ns)
  | [] => .nil
  | n :: r => .cons (.int n) (dpAll_ints r)
theorem dp_ints {K : PySem.W.Frag} {H : Hp} {a : Addr} {ns : List Int} (h : H a = some (.lst (ns.map V.int))) : Dp K H (.ref a) (.list (dInts ns)) := .lst (SqL.of h) (dpAll_ints ns)
theorem log_small {i : Int} (h : i.natAbs < 10 ^ 9) : i.natAbs.log2 < 30 := Nat.lt_of_lt_of_le (PySem.Flt.log2_lt_of (show 0 < 30 by decide) (Nat.lt_trans h (by decide))) (by decide)
theorem ints_show : ∀ ns : List Int, (∀ n ∈ ns, n.natAbs < 10 ^ 9) → PyData.showableAll (dInts ns) = true ∧ PyData.hasDictAll (dInts ns) = false ∧ PyData.depthAll (dInts ns) = 0 ∧ PyData.leavesShortAll 13 (dInts ns) = true ∧ PyData.weightAll (dInts ns) ≤ 40 * ns.length
  | [], _ => ⟨rfl, rfl, rfl, rfl, Nat.le_refl _⟩
  | n :: r, h => by
    obtain ⟨h1, h2, h3, h4, h5⟩ := ints_show r fun m hm => h m (List.mem_cons_of_mem _ hm)
    have hn := h n List.mem_cons_self
    have hl := log_small hn
    refine ⟨?_, ?_, ?_, ?_, ?_⟩
    · show (PyData.showable (.int n) && PyData.showableAll (dInts r)) = true
      rw [h1, Bool.and_true]
      simp only [PyData.showable, decide_eq_true_eq]
      omega
    · show (PyData.hasDict (.int n) || PyData.hasDictAll (dInts r)) = false
      rw [h2]
      rfl
    · show max (PyData.depth (.int n)) (PyData.depthAll (dInts r)) = 0
      rw [h3]
      rfl
    · show (PyData.leavesShort 13 (.int n) && PyData.leavesShortAll 13 (dInts r)) = true
      rw [h4, Bool.and_true]
      exact decide_eq_true (PyData.shown_int_le (Nat.lt_trans hn (by decide)))
    · show PyData.weight (.int n) + 1 + PyData.weightAll (dInts r) ≤ 40 * (r.length + 1)
      have : PyData.weight (.int n) ≤ 31 := by
        show (if n == 0 then 0 else n.natAbs.log2 + 1) ≤ 31
        split <;> omega
      omega
structure Shows (d : PyData) : Prop where
  s : d.showable = true
  h : d.hasDict = false
  dp : d.depth ≤ 60
  z : d.shown.length ≤ sizeLine
theorem shows_ints {ns : List Int} (h : ∀ n ∈ ns, n.natAbs < 10 ^ 9) (hl : ns.length ≤ 10000) : Shows (.list (dInts ns)) := by
  obtain ⟨h1, h2, h3, h4, h5⟩ := ints_show ns h
  refine ⟨h1, h2, ?_, PyData.shown_fits (B := 13) (by decide) (by decide) (d := .list (dInts ns)) h4 ?_⟩
  · show PyData.depthAll (dInts ns) + 1 ≤ 60
    omega
  · show PyData.weightAll (dInts ns) ≤ 2 ^ 20
    omega
/-! ### the end of a law, by FnG -/
section
variable {P : Program} {w : World} {K : PySem.W.Frag} {mg mb : Str → Option Value} {CX : CXT} {k : Nat} {fa a : Addr} {cs : List (Addr × Addr)} {fd : FuncData} {x : Str} {sp : Sp} {s₁ : Shared} {vs : List Value} {ns : List Int}
/-- the script (where K doesn't hold it) and the tables are tracked at the law's call -/
def hLaw (K : PySem.W.Frag) (T : List Addr) (a : Addr) (ob : Obj) (xs : List V) : Hp := fun b =>
  if b ∈ T then some (.tbl #[]) else if b = a ∧ K.lookup a = none then some (.frz ob (.lst xs)) else none
theorem hLaw_tab {T : List Addr} {ob : Obj} {xs : List V} {b : Addr} (h : b ∈ T) : hLaw K T a ob xs b = some (.tbl #[]) := if_pos h
theorem hLaw_inv {T : List Addr} {ob : Obj} {xs : List V} {b : Addr} {u : HO} (h : hLaw K T a ob xs b = some u) : (b ∈ T ∧ u = .tbl #[]) ∨ (b = a ∧ K.lookup a = none ∧ u = .frz ob (.lst xs)) := by
  unfold hLaw at h
  by_cases hT : b ∈ T
  · rw [if_pos hT] at h
    exact .inl ⟨hT, (Option.some.inj h).symm⟩
  · rw [if_neg hT] at h
    by_cases ha : b = a ∧ K.lookup a = none
    · rw [if_pos ha] at h
      exact .inr ⟨ha.1, ha.2, (Option.some.inj h).symm⟩
    · rw [if_neg ha] at h
      cases h
theorem law_callG (KX : K.In s₁.heap) (hns : s₁.heap.Ns mainGlobals mg) (hb : s₁.heap.Ns builtinsNs mb) (hbb : ∀ x : Str, x ≠ "__name__" → mb x = bootBuiltins x) (hlim : s₁.heap.NoLimit) (hg : s₁.gens = #[])
    (hT : ∀ p ∈ cs, s₁.heap.get? p.2 = some { cls := .none, data := .fields #[] }) (nT : ∀ p ∈ cs, K.lookup p.2 = none) (C : ∀ p ∈ cs, PySem.W.CodeHd s₁.heap p.1 p.2)
    (hbm : ∃ (bm : Addr) (ob : Obj), mg "__builtins__" = some (.ref bm) ∧ bm ≠ builtinsNs ∧ s₁.heap.get? bm = some ob ∧ ob.cls = .type "module" ∧ ob.dict = some builtinsNs ∧ ob.data = .plain)
    (ha : s₁.heap.get? a = some { cls := .type "list", data := .seq vs.toArray }) (hi : IntsAre vs ns) (hl : ns.length ≤ sizeLine) (hr : Room k callerA)
    (F : ∀ base : Heap, K.In base → base.Ns mainGlobals mg → (∀ p ∈ cs, LamX.TabB base mg p.1 p.2) → FnG P w K mg base CX k fa fd [x] sp) (hbind : ∀ (s : Shared) (u : Value), BindsTo s fd ⟨[u], []⟩ [(x, u)])
    (hsp : ∀ H : Hp, (∀ p ∈ cs, H p.2 = some (.tbl #[])) → SqL K H a (ns.map V.int) → sp [.ref a] H (fun v _ => v = .bl true) fun _ _ _ => False)
    (hCX : ∀ H e s', CX [] H s₁ (fun _ _ _ => False) e s' → False) :
    codeAny (model P w) callerA (.call (.ref fa) ⟨[.ref a], []⟩) (fun r s' => r = .ok (.ret (.bool true)) ∧ OldK s₁.heap s'.heap ∧ s'.os = s₁.os ∧ AllBare s'.gens) s₁ := by
  have rv := vals_ints hi
  have lenV := hi.length
  obtain ⟨T, eT⟩ : ∃ T : List Addr, cs.map (·.2) = T := ⟨_, rfl⟩
  have tIn : ∀ p ∈ cs, p.2 ∈ T := fun p hp => by
    rw [← eT]
    exact List.mem_map.mpr ⟨p, hp, rfl⟩
  have tOut : ∀ b, b ∈ T → ∃ p ∈ cs, p.2 = b := fun b h => by
    rw [← eT] at h
    exact List.mem_map.mp h
  have tGet : ∀ b, b ∈ T → s₁.heap.get? b = some { cls := .none, data := .fields #[] } := fun b h => by
    obtain ⟨p, hp, rfl⟩ := tOut b h
    exact hT p hp
  have aOut : a ∉ T := fun z => by
    have q := ha.symm.trans (tGet a z)
    cases q
  obtain ⟨H, eH⟩ : ∃ H : Hp, hLaw K T a { cls := .type "list", data := .seq vs.toArray } (ns.map V.int) = H := ⟨_, rfl⟩
  have inv : ∀ {b : Addr} {u : HO}, H b = some u → (b ∈ T ∧ u = .tbl #[]) ∨ (b = a ∧ K.lookup a = none ∧ u = .frz { cls := .type "list", data := .seq vs.toArray } (.lst (ns.map V.int))) := fun h => by
    rw [← eH] at h
    exact hLaw_inv h
  have hH : ∀ p ∈ cs, H p.2 = some (.tbl #[]) := fun p hp => by
    rw [← eH]
    exact hLaw_tab (tIn p hp)
  have hS : SqL K H a (ns.map V.int) := by
    cases hk : K.lookup a with
    | none => exact .inl (.inr ⟨_, by rw [← eH]; exact (if_neg aOut).trans (if_pos ⟨rfl, hk⟩)⟩)
    | some o =>
      have e := (KX a o hk).symm.trans ha
      cases e
      exact .inr ⟨_, vs.toArray, _, hk, rfl, rfl, rfl, by rw [List.size_toArray, lenV]; exact hl, by simpa using rv⟩
  have hok : HOk P w H s₁.heap := fun b u e => by
    rcases inv e with ⟨h1, rfl⟩ | ⟨rfl, _, rfl⟩
    · exact tGet b h1
    · exact ⟨ha, by rw [List.length_map]; exact hl, vs, _, rv, ha⟩
  -- what is neither the script nor a table isn't tracked
  have off : ∀ {b : Addr} {o : Obj}, s₁.heap.get? b = some o → (∀ us n, o.data ≠ .seq us n) → o.data ≠ .fields #[] → H b = none := fun {b o} e h1 h2 => by
    cases q : H b with
    | none => rfl
    | some u =>
      rcases inv q with ⟨g1, _⟩ | ⟨rfl, _, _⟩
      · rw [tGet b g1] at e
        cases e
        exact absurd rfl h2
      · rw [ha] at e
        cases e
        exact absurd rfl (h1 _ _)
  have nsK : ∀ {b : Addr} {m : Str → Option Value}, s₁.heap.Ns b m → (hidT s₁.heap H).Ns b m := fun {b m} z => by
    obtain ⟨o, es, ep, e, d, r⟩ := z
    exact ⟨o, es, ep, hidT_get e (off e (fun us n y => by rw [d] at y; cases y) fun y => by rw [d] at y; cases y), d, r⟩
  have hKb : K.In (hidT s₁.heap H) := fun b o e => hidT_get (KX b o e) (by
    cases q : H b with
    | none => rfl
    | some u =>
      rcases inv q with ⟨g1, _⟩ | ⟨rfl, g2, _⟩
      · obtain ⟨p, hp, rfl⟩ := tOut b g1
        rw [nT p hp] at e
        cases e
      · rw [g2] at e
        cases e)
  have hM : L2.Mod K mg (hidT s₁.heap H) := ⟨hKb, nsK hns, ⟨mb, nsK hb, hbb⟩, let ⟨mc, h1, h2⟩ := hlim; ⟨mc, nsK h1, h2⟩⟩
  have TB : ∀ p ∈ cs, LamX.TabB (hidT s₁.heap H) mg p.1 p.2 := fun p hp => by
    have hTp := hT p hp
    refine ⟨?_, ?_, fun z => ?_⟩
    · obtain ⟨o, us, file, tf, flags, tg, inF, text, tt, e1, r1, r2, r3, r4⟩ := C p hp
      exact ⟨o, us, file, tf, flags, tg, inF, text, tt, hidT_get e1 (off e1 (fun _ _ z => by rw [r2] at z; cases z) fun z => by
        rw [r2] at z
        cases z
        simp at r3), r1, r2, r3, r4⟩
    · obtain ⟨bm, ob, b1, b2, b3, b4, b5, b6⟩ := hbm
      refine ⟨bm, ob, b1, b2, fun y => ?_, fun y => ?_, hidT_get b3 (off b3 (fun _ _ z => by rw [b6] at z; cases z) fun z => by rw [b6] at z; cases z), b4, b5, b6⟩
      · obtain ⟨o, es, ep, e, hd, _⟩ := hns
        rw [y, e] at b3
        cases b3
        rw [hd] at b6
        cases b6
      · rw [y, hTp] at b3
        cases b3
        cases b6
    · obtain ⟨o, es, ep, e, hd, _⟩ := hns
      rw [z, hTp] at e
      cases e
      cases hd
  have e0 : Env0 P w K mg (hidT s₁.heap H) callerA [] s₁ H := ⟨rfl, hM, fun b o e => of_hidT e, Nat.le_of_eq (hidT_size _ _), trivial, fun b hb => absurd (show b ∈ ([] : List Addr) from hb) (by simp), hok, .of_eq hg⟩
  refine codeAny_mono ((F _ hKb (nsK hns) TB).grun callerA [] s₁ H ⟨[.ref a], []⟩ [.ref a] [.ref a] _ _ rfl hr e0 (hbind s₁ (.ref a)) (.cons rfl .nil) (hsp H hH hS)) fun r s' h => ?_
  match r, h with
  | .error e, h => exact (hCX H e s' h).elim
  | .ok .next, h => exact False.elim h
  | .ok .brk, h => exact False.elim h
  | .ok .cont, h => exact False.elim h
  | .ok (.ret u), h =>
    obtain ⟨v, H', os, bare, un, hok', r', q'⟩ := h
    cases (show v = .bl true from q')
    cases (show u = Value.bool true from r')
    have noF : ∀ b : Addr, b ∉ frs ([] : List Env) := fun b z => nomatch (show b ∈ ([] : List Addr) from z)
    have key : ∀ b o, b ∉ T → s₁.heap.get? b = some o → s'.heap.get? b = some o := fun b o nb e => by
      cases q : H b with
      | none => exact un.keep b o e q (noF b) (fun z => nomatch z)
      | some u =>
        rcases inv q with ⟨g1, _⟩ | ⟨rfl, _, rfl⟩
        · exact absurd g1 nb
        · obtain ⟨e2, _⟩ := hok' b _ (un.frzs b _ _ q)
          rw [ha] at e
          cases e
          exact e2
    have grown : ∀ p ∈ cs, ∃ more : Array Value, s'.heap.get? p.2 = some { cls := .none, data := .fields more } := fun p hp => by
      obtain ⟨more, z⟩ := un.tbls p.2 #[] (hH p hp)
      exact ⟨_, hok' p.2 _ z⟩
    refine ⟨rfl, ⟨fun b o e => ?_, fun b o e => ?_⟩, os, bare⟩
    · by_cases hb : b ∈ T
      · obtain ⟨p, hp, rfl⟩ := tOut b hb
        obtain ⟨more, hm⟩ := grown p hp
        rw [hT p hp] at e
        cases e
        exact .inr (.inl ⟨((C p hp).tab (hT p hp)).isCodeTable, rfl, #[], more, rfl, by rw [Array.empty_append]; exact hm⟩)
      · exact .inl (key b o hb e)
    · by_cases hb : b ∈ T
      · obtain ⟨p, hp, rfl⟩ := tOut b hb
        obtain ⟨more, hm⟩ := grown p hp
        exact ⟨_, hm⟩
      · exact ⟨o, key b o hb e⟩
end
/-- what is known of the law's promise at the head's heap -/
def LawAtG (l : PySem.W.OpenLaw) (w : World) (K : PySem.W.Frag) (CX : CXT) (k n : Nat) (x : Str) (mg : Str → Option Value) (fa : Addr) (h : Heap) : Prop :=
  ∃ (fd : FuncData) (cs : List (Addr × Addr)) (sp : Sp), (∀ p ∈ cs, h.get? p.2 = some { cls := .none, data := .fields #[] }) ∧ (∀ p ∈ cs, K.lookup p.2 = none) ∧ (∀ p ∈ cs, PySem.W.CodeHd h p.1 p.2) ∧ (∀ (s : Shared) (u : Value), BindsTo s fd ⟨[u], []⟩ [(x, u)]) ∧
    (∀ (H : Hp) (a : Addr) (ns : List Int), ns.length ≤ n → (∀ p ∈ cs, H p.2 = some (.tbl #[])) → SqL K H a (ns.map V.int) → sp [.ref a] H (fun v _ => v = .bl true) fun _ _ _ => False) ∧
    ∀ base : Heap, K.In base → base.Ns mainGlobals mg → (∀ p ∈ cs, LamX.TabB base mg p.1 p.2) → FnG l.prog w K mg base CX k fa fd [x] sp
theorem walk_ofG {l : PySem.W.OpenLaw} {n k : Nat} {q : Program} {loose : List Str} {XP : (Str → Option Value) → Heap → Prop} {YP : World → Heap → Prop} {d : DefRec} {CX : World → CXT} {x : Str}
    (hn : l.most = some n) (hn2 : n ≤ sizeLine) (hdf : d.params.defaults = []) (hr : Room k callerA)
    (F : ∀ (w : World) (mg : Str → Option Value) (fa : Addr) (h : Heap), YP w h → h.Ns mainGlobals mg → mg d.name = some (.ref fa) → ∃ K : PySem.W.Frag, K.In h ∧ LawAtG l w K (CX w) k n x mg fa h)
    (hCX : ∀ (w : World) (H : Hp) (s : Shared) (e : Value) (s' : Shared), CX w [] H s (fun _ _ _ => False) e s' → False) :
    PySem.W.WalkO q loose XP YP l.row.toRowW d [] (fun f vs => PySem.call f vs) := by
  refine Att.attach_callB hn hdf fun w s₀ s₁ mg mb fa o pm cd doc a vs ns G Y ho hd hcd hmg hobj hints hlen hbits hg => ?_
  obtain ⟨K, KX, fd, cs, sp, hT, nT, C, hb, hsp, hF⟩ := F w mg fa _ Y G.T.g hmg
  exact law_callG KX G.T.g G.T.b G.T.builtins G.T.nolimit hg hT nT C G.T.bmain hobj hints (Nat.le_trans hlen hn2) hr hF hb (fun H hH hS => hsp H a ns hlen hH hS) fun H e s' => hCX w H s₁ e s'
end TCX
/-! isinstance of a kept exception and a tuple of classes; promises joined. -/
namespace TCX
open PySem PySem.Spec PyProof.Rows L2
section
variable {X : Cx}
def rIsVT (K : PySem.W.Frag) : List V → Hp → VK → Prop := fun xs H Q => ∃ (a D tp : Addr) (cs : List V) (us : List Value) (b : Bool), xs = [.ref a, .ref tp] ∧ H a = some (ExV (.ref D) none a) ∧ ExcC K D ∧ H tp = some (.tup cs) ∧ Paired ClsV cs us ∧ PySem.W.kitAny K (.ref D) us = some b ∧ Q (.bl b) H
theorem call_isVT : CallR X (.builtin "isinstance") (rIsVT X.K) := by
  intro pins s σ H xs us Q I r h
  obtain ⟨a, D, tp, cs, ws, b, rfl, hH, C, hT, k, e, q⟩ := h
  obtain ⟨u1, u2, rfl, r1, r2⟩ := vals2 r
  cases (show u2 = Value.ref tp from r2)
  cases (show u1 = Value.ref a from r1)
  obtain ⟨oe, J⟩ := inst_of I hH
  obtain ⟨_, its, rv, o, h1, h2, n, h3⟩ := (show ObjOk X.prog X.w H s.heap tp (.tup cs) from I.hok tp _ hT)
  have e3 := ClsV.all k rv
  subst e3
  obtain ⟨oc, od, dt, sl⟩ := o
  simp only at h2 h3
  subst h2 h3
  exact PySem.W.kia_tup (PySem.W.handS_kitx_exc C.hg C.hk C.hs C.hd C.ha C.hn C.ht C.hm) I.kIn J h1 e (fun z => nomatch z) fun tk => ⟨.bl b, H, I.tok tk, rfl, q⟩
end
section
variable {P : Program} {w : World} {K : PySem.W.Frag} {mg : Str → Option Value} {base : Heap} {k : Nat} {f : Addr} {fd : FuncData} {ps : List Str} {sp sq : Sp}
/-- a def that lets nothing out may be asked where something might -/
theorem lift0 (F : FnOk P w K mg base CX0 k f fd ps sp) : FnOk P w K mg base (L2.CX P w) k f fd ps sp := by
  refine ⟨F.len, fun A outer s H args us vs Q E hr he hb hv hs => codeAny_mono (F.run A outer s H args us vs Q E hr he hb hv hs) fun r s' hq => ?_⟩
  match r, hq with
  | .error u, hq => exact (show False from hq).elim
  | .ok (.ret u), hq => exact hq
  | .ok .next, hq => exact hq
  | .ok .brk, hq => exact hq
  | .ok .cont, hq => exact hq
/-- two promises of one def -/
theorem both {CX : CXT} (F : FnOk P w K mg base CX k f fd ps sp) (G : FnOk P w K mg base CX k f fd ps sq) : FnOk P w K mg base CX k f fd ps (fun vs H Q E => sp vs H Q E ∨ sq vs H Q E) := by
  refine ⟨fun vs H Q E h => h.elim (F.len vs H Q E) (G.len vs H Q E), fun A outer s H args us vs Q E hr he hb hv hs => ?_⟩
  rcases hs with h | h
  · exact F.run A outer s H args us vs Q E hr he hb hv h
  · exact G.run A outer s H args us vs Q E hr he hb hv h
end
end TCX
namespace TC
open PySem PySem.Spec PyProof.Rows L2 TCX
/-- what _law_word reads of the module -/
structure WTxt (K : PySem.W.Frag) (mg : Str → Option Value) : Prop where
  g : ∀ (i : Nat) {x : Str}, clsN[i]? = some x → mg x = some (.ref (He.ga K x))
  gT : mg "TurnError" = some (.ref (He.ga K "TurnError"))
  gV : mg "ValueError" = none
  gZ : mg "ZeroDivisionError" = none
  gK : mg "KeyError" = none
  gI : mg "IndexError" = none
  gL : mg "LookupError" = none
  is : mg "isinstance" = none
section
variable {P : Program} {w : World} {K : PySem.W.Frag} {mg : Str → Option Value} {base : Heap} {f : Addr} {fd : FuncData}
/-! ### _law_word -/
def spWord (K : PySem.W.Frag) : Sp := fun vs H Q _ => ∃ (a D : Addr) (n : Nat), vs = [.ref a] ∧ H a = some (ExV (.ref D) none a) ∧ KindF K D n ∧ n < 22 ∧ ∀ H', Same H H' → Q (.str (words.getD n "")) H'
theorem scWord : FnScope ["_law_e", "_law_words", "_law_some_here", "_law_at", "_law_under"] ["_law_e"] (defScope sWord) := ⟨rfl, rfl, rfl, by decide +kernel, rfl, by decide +kernel, by decide +kernel⟩
def bits (n : Nat) : List Bool := (List.range 22).map fun i => i == n
theorem bits_all : ∀ n, n < 22 → (((bits n).map V.bl).countP fun z => eqV z (.bl true)) = 1 ∧ (bits n)[n]? = some true ∧ (∀ m, m < n → (bits n)[m]? = some false) := by decide
theorem words_at : ∀ n, n < 22 → words[n]? = some (words.getD n "") := by decide
theorem ok_word (F : FnP K "_law_word" sWord f fd) (T : WTxt K mg) : FnOk P w K mg base CX0 1 f fd ["_law_e"] (spWord K) := by
  refine F.ok scWord (fun vs H Q E h => ?_) (fun cdv A outer s H vs Q E hr h => ?_)
  · obtain ⟨_, _, _, rfl, _⟩ := h
    rfl
  · obtain ⟨a, D, n, rfl, ha, kd, n22, q⟩ := h
    refine ⟨_, PSs.nox
    (pss_cons (ps_set (i := 1) scWord.nd rfl (.inl rfl) (pe_lst (pa_cons pe_str (pa_cons pe_str (pa_cons pe_str (pa_cons pe_str (pa_cons pe_str (pa_cons pe_str (pa_cons pe_str (pa_cons pe_str (pa_cons pe_str (pa_cons pe_str (pa_cons pe_str pa_nil)))))))))))))
    (C8.pss_cut (ps_set (i := 1) scWord.nd rfl (.inl rfl) (pe_op op_cat (pv 1) (pe_lst (pa_cons pe_str (pa_cons pe_str (pa_cons pe_str (pa_cons pe_str (pa_cons pe_str (pa_cons pe_str (pa_cons pe_str (pa_cons pe_str (pa_cons pe_str (pa_cons pe_str (pa_cons pe_str pa_nil))))))))))))))
    (C8.pss_cut (ps_set (i := 2) scWord.nd rfl (.inl rfl) (pe_lst (pa_cons (pe_callB call_isV (by rfl) T.is (by decide +kernel) (pa_cons (pv 0) (pa_cons (pe_glob (v := .ref (He.ga K "Empty")) (by rfl) (T.g 0 rfl) rfl) pa_nil))) (pa_cons (pe_callB call_isV (by rfl) T.is (by decide +kernel) (pa_cons (pv 0) (pa_cons (pe_glob (v := .ref (He.ga K "NoDeed")) (by rfl) (T.g 1 rfl) rfl) pa_nil))) (pa_cons (pe_callB call_isV (by rfl) T.is (by decide +kernel) (pa_cons (pv 0) (pa_cons (pe_glob (v := .ref (He.ga K "NoHalf")) (by rfl) (T.g 2 rfl) rfl) pa_nil))) (pa_cons (pe_callB call_isV (by rfl) T.is (by decide +kernel) (pa_cons (pv 0) (pa_cons (pe_glob (v := .ref (He.ga K "NoLinking")) (by rfl) (T.g 3 rfl) rfl) pa_nil))) pa_nil))))))
    (C8.pss_cut (ps_set (i := 2) scWord.nd rfl (.inl rfl) (pe_op op_cat (pv 2) (pe_lst (pa_cons (pe_callB call_isV (by rfl) T.is (by decide +kernel) (pa_cons (pv 0) (pa_cons (pe_glob (v := .ref (He.ga K "NoNet")) (by rfl) (T.g 4 rfl) rfl) pa_nil))) (pa_cons (pe_callB call_isV (by rfl) T.is (by decide +kernel) (pa_cons (pv 0) (pa_cons (pe_glob (v := .ref (He.ga K "NoNumber")) (by rfl) (T.g 5 rfl) rfl) pa_nil))) (pa_cons (pe_callB call_isV (by rfl) T.is (by decide +kernel) (pa_cons (pv 0) (pa_cons (pe_glob (v := .ref (He.ga K "NoOffset")) (by rfl) (T.g 6 rfl) rfl) pa_nil))) (pa_cons (pe_callB call_isV (by rfl) T.is (by decide +kernel) (pa_cons (pv 0) (pa_cons (pe_glob (v := .ref (He.ga K "NoQuestion")) (by rfl) (T.g 7 rfl) rfl) pa_nil))) pa_nil)))))))
    (C8.pss_cut (ps_set (i := 2) scWord.nd rfl (.inl rfl) (pe_op op_cat (pv 2) (pe_lst (pa_cons (pe_callB call_isV (by rfl) T.is (by decide +kernel) (pa_cons (pv 0) (pa_cons (pe_glob (v := .ref (He.ga K "NoRow")) (by rfl) (T.g 8 rfl) rfl) pa_nil))) (pa_cons (pe_callB call_isV (by rfl) T.is (by decide +kernel) (pa_cons (pv 0) (pa_cons (pe_glob (v := .ref (He.ga K "NoSize")) (by rfl) (T.g 9 rfl) rfl) pa_nil))) (pa_cons (pe_callB call_isV (by rfl) T.is (by decide +kernel) (pa_cons (pv 0) (pa_cons (pe_glob (v := .ref (He.ga K "NoStanding")) (by rfl) (T.g 10 rfl) rfl) pa_nil))) (pa_cons (pe_callB call_isV (by rfl) T.is (by decide +kernel) (pa_cons (pv 0) (pa_cons (pe_glob (v := .ref (He.ga K "NoTable")) (by rfl) (T.g 11 rfl) rfl) pa_nil))) pa_nil)))))))
    (C8.pss_cut (ps_set (i := 2) scWord.nd rfl (.inl rfl) (pe_op op_cat (pv 2) (pe_lst (pa_cons (pe_callB call_isV (by rfl) T.is (by decide +kernel) (pa_cons (pv 0) (pa_cons (pe_glob (v := .ref (He.ga K "NoText")) (by rfl) (T.g 12 rfl) rfl) pa_nil))) (pa_cons (pe_callB call_isV (by rfl) T.is (by decide +kernel) (pa_cons (pv 0) (pa_cons (pe_glob (v := .ref (He.ga K "NotParted")) (by rfl) (T.g 13 rfl) rfl) pa_nil))) (pa_cons (pe_callB call_isV (by rfl) T.is (by decide +kernel) (pa_cons (pv 0) (pa_cons (pe_glob (v := .ref (He.ga K "NoTree")) (by rfl) (T.g 14 rfl) rfl) pa_nil))) (pa_cons (pe_callB call_isV (by rfl) T.is (by decide +kernel) (pa_cons (pv 0) (pa_cons (pe_glob (v := .ref (He.ga K "NoTriple")) (by rfl) (T.g 15 rfl) rfl) pa_nil))) pa_nil)))))))
    (C8.pss_cut (ps_set (i := 2) scWord.nd rfl (.inl rfl) (pe_op op_cat (pv 2) (pe_lst (pa_cons (pe_callB call_isV (by rfl) T.is (by decide +kernel) (pa_cons (pv 0) (pa_cons (pe_glob (v := .ref (He.ga K "NoWay")) (by rfl) (T.g 16 rfl) rfl) pa_nil))) (pa_cons (pe_callB call_isV (by rfl) T.is (by decide +kernel) (pa_cons (pv 0) (pa_cons (pe_glob (v := .ref (He.ga K "TooWide")) (by rfl) (T.g 17 rfl) rfl) pa_nil))) (pa_cons (pe_callB call_isV (by rfl) T.is (by decide +kernel) (pa_cons (pv 0) (pa_cons (pe_glob (v := .ref (He.ga K "ByNought")) (by rfl) (T.g 18 rfl) rfl) pa_nil))) (pa_cons (pe_callB call_isV (by rfl) T.is (by decide +kernel) (pa_cons (pv 0) (pa_cons (pe_glob (v := .ref (He.ga K "NoName")) (by rfl) (T.g 19 rfl) rfl) pa_nil))) pa_nil)))))))
    (C8.pss_cut (ps_set (i := 2) scWord.nd rfl (.inl rfl) (pe_op op_cat (pv 2) (pe_lst (pa_cons (pe_callB call_isV (by rfl) T.is (by decide +kernel) (pa_cons (pv 0) (pa_cons (pe_glob (v := .ref (He.ga K "NoPlace")) (by rfl) (T.g 20 rfl) rfl) pa_nil))) (pa_cons (pe_callB call_isV (by rfl) T.is (by decide +kernel) (pa_cons (pv 0) (pa_cons (pe_glob (v := .ref (He.ga K "NothingDone")) (by rfl) (T.g 21 rfl) rfl) pa_nil))) pa_nil)))))
    (pss_cons (ps_if (pt_cmpR op_ne (pe_bm PySem.F.plainAttrs_list PySem.F.slot_list_count PySem.F.type_list_count mt_count (pv 2) (pa_cons pe_bl pa_nil)) pe_int (nomark _)) (pss_one (ps_ret pe_str)) pss_nil)
    (pss_cons (ps_set (i := 3) scWord.nd rfl (.inl rfl) (pe_bm PySem.F.plainAttrs_list PySem.F.slot_list_index PySem.F.type_list_index mt_index (pv 2) (pa_cons pe_bl pa_nil)))
    (pss_cons (ps_if (pt_cmpR op_lt (pv 3) pe_int (nomark _)) (pss_one (ps_ret (pe_ifExp (PW.pt (pw_and (pt_val (pe_callB call_isV (by rfl) T.is (by decide +kernel) (pa_cons (pv 0) (pa_cons (pe_glob (v := .ref (He.ga K "TurnError")) (by rfl) T.gT rfl) pa_nil)))) (pw_and1 (pt_val (pe_callB call_isV (by rfl) T.is (by decide +kernel) (pa_cons (pv 0) (pa_cons (pe_bltn (v := .ty "ValueError") (by rfl) T.gV (by decide +kernel) rfl) pa_nil))))))) (pe_ix ix_list (pv 1) (pv 3) (fun _ _ => rfl)) pe_str))) pss_nil)
    (C8.pss_cut (ps_set (i := 4) scWord.nd rfl (.inl rfl) (pe_lst (pa_cons (pe_callB call_isV (by rfl) T.is (by decide +kernel) (pa_cons (pv 0) (pa_cons (pe_bltn (v := .ty "ZeroDivisionError") (by rfl) T.gZ (by decide +kernel) rfl) pa_nil))) (pa_cons (pe_callB call_isV (by rfl) T.is (by decide +kernel) (pa_cons (pv 0) (pa_cons (pe_bltn (v := .ty "KeyError") (by rfl) T.gK (by decide +kernel) rfl) pa_nil))) (pa_cons (pe_callB call_isV (by rfl) T.is (by decide +kernel) (pa_cons (pv 0) (pa_cons (pe_bltn (v := .ty "IndexError") (by rfl) T.gI (by decide +kernel) rfl) pa_nil))) pa_nil)))))
    (C8.pss_cut (ps_expr (pe_bm PySem.F.plainAttrs_list PySem.F.slot_list_append PySem.F.type_list_append mt_append (pv 4) (pa_cons (pe_and (pe_callB call_isV (by rfl) T.is (by decide +kernel) (pa_cons (pv 0) (pa_cons (pe_bltn (v := .ty "LookupError") (by rfl) T.gL (by decide +kernel) rfl) pa_nil))) (pe_one (pe_not (pe_callB call_isVT (by rfl) T.is (by decide +kernel) (pa_cons (pv 0) (pa_cons (pe_tup (pa_cons (pe_bltn (v := .ty "KeyError") (by rfl) T.gK (by decide +kernel) rfl) (pa_cons (pe_bltn (v := .ty "IndexError") (by rfl) T.gI (by decide +kernel) rfl) pa_nil))) pa_nil)))))) pa_nil)))
      (pss_one (ps_ret (pe_ifExp (PW.pt (pw_and (pt_val (pe_ix ix_list (pv 4) (pe_op op_sub (pv 3) pe_int) (fun _ _ => rfl))) (pw_and1 (pt_not (pt_val (pe_callB call_isV (by rfl) T.is (by decide +kernel) (pa_cons (pv 0) (pa_cons (pe_glob (v := .ref (He.ga K "TurnError")) (by rfl) T.gT rfl) pa_nil)))))))) (pe_ix ix_list (pv 1) (pv 3) (fun _ _ => rfl)) pe_str)))))))))))))))), ?_⟩
    refine ⟨by show 11 ≤ sizeLine; decide, fun l0 hl0 => ?_⟩
    have s0 := same_upd (o := .lst ((words.take 11).map V.str)) hl0
    refine ⟨fun σ H1 => ∃ pw, σ = [some (.ref a), some (.ref pw), none, none, none] ∧ H1 pw = some (.lst (words.map V.str)) ∧ Same H H1, ?_, fun σ1 H1 h1 => ?_⟩
    · refine ⟨_, rfl, by show 11 ≤ sizeLine; decide, fun l1 hl1 => ?_⟩
      have s1 := same_upd (o := .lst ((words.drop 11).map V.str)) hl1
      refine ⟨_, _, _, _, rfl, rfl, s1 _ _ upd_same, upd_same, by show 22 ≤ sizeLine; decide, fun p hp => ?_⟩
      exact ⟨p, rfl, upd_same, (s0.trans s1).trans (same_upd hp)⟩
    obtain ⟨pw, rfl, hw, sm⟩ := h1
    have ha0 := sm _ _ ha
    refine ⟨fun σ H2 => ∃ ps, σ = [some (.ref a), some (.ref pw), some (.ref ps), none, none] ∧ H2 pw = some (.lst (words.map V.str)) ∧ H2 ps = some (.lst (((bits n).take 4).map V.bl)) ∧ Same H H2, ?_, fun σ2 H2 h2 => ?_⟩
    · refine ⟨_, rfl, a, D, _, _, _, rfl, ha0, kd.ec, fun _ r => r, kd.kits.at 0 rfl, _, rfl, a, D, _, _, _, rfl, ha0, kd.ec, fun _ r => r, kd.kits.at 1 rfl, _, rfl, a, D, _, _, _, rfl, ha0, kd.ec, fun _ r => r, kd.kits.at 2 rfl, _, rfl, a, D, _, _, _, rfl, ha0, kd.ec, fun _ r => r, kd.kits.at 3 rfl, by show 4 ≤ sizeLine; decide, fun l hl => ?_⟩
      exact ⟨l, rfl, (same_upd hl) _ _ hw, upd_same, sm.trans (same_upd hl)⟩
    obtain ⟨ps, rfl, hw, hs, sm⟩ := h2
    have ha1 := sm _ _ ha
    refine ⟨fun σ H3 => ∃ ps, σ = [some (.ref a), some (.ref pw), some (.ref ps), none, none] ∧ H3 pw = some (.lst (words.map V.str)) ∧ H3 ps = some (.lst (((bits n).take 8).map V.bl)) ∧ Same H H3, ?_, fun σ2 H3 h2 => ?_⟩
    · refine ⟨_, rfl, _, rfl, a, D, _, _, _, rfl, ha1, kd.ec, fun _ r => r, kd.kits.at 4 rfl, _, rfl, a, D, _, _, _, rfl, ha1, kd.ec, fun _ r => r, kd.kits.at 5 rfl, _, rfl, a, D, _, _, _, rfl, ha1, kd.ec, fun _ r => r, kd.kits.at 6 rfl, _, rfl, a, D, _, _, _, rfl, ha1, kd.ec, fun _ r => r, kd.kits.at 7 rfl, by show 4 ≤ sizeLine; decide, fun l hl => ?_⟩
      have s1 := same_upd (o := .lst (([4 == n, 5 == n, 6 == n, 7 == n] : List Bool).map V.bl)) hl
      refine ⟨_, _, _, _, rfl, rfl, s1 _ _ hs, upd_same, by show 8 ≤ sizeLine; decide, fun p hp => ?_⟩
      exact ⟨p, rfl, (same_upd hp) _ _ (s1 _ _ hw), upd_same, (sm.trans s1).trans (same_upd hp)⟩
    obtain ⟨ps, rfl, hw, hs, sm⟩ := h2
    have ha2 := sm _ _ ha
    refine ⟨fun σ H4 => ∃ ps, σ = [some (.ref a), some (.ref pw), some (.ref ps), none, none] ∧ H4 pw = some (.lst (words.map V.str)) ∧ H4 ps = some (.lst (((bits n).take 12).map V.bl)) ∧ Same H H4, ?_, fun σ2 H4 h2 => ?_⟩
    · refine ⟨_, rfl, _, rfl, a, D, _, _, _, rfl, ha2, kd.ec, fun _ r => r, kd.kits.at 8 rfl, _, rfl, a, D, _, _, _, rfl, ha2, kd.ec, fun _ r => r, kd.kits.at 9 rfl, _, rfl, a, D, _, _, _, rfl, ha2, kd.ec, fun _ r => r, kd.kits.at 10 rfl, _, rfl, a, D, _, _, _, rfl, ha2, kd.ec, fun _ r => r, kd.kits.at 11 rfl, by show 4 ≤ sizeLine; decide, fun l hl => ?_⟩
      have s1 := same_upd (o := .lst (([8 == n, 9 == n, 10 == n, 11 == n] : List Bool).map V.bl)) hl
      refine ⟨_, _, _, _, rfl, rfl, s1 _ _ hs, upd_same, by show 12 ≤ sizeLine; decide, fun p hp => ?_⟩
      exact ⟨p, rfl, (same_upd hp) _ _ (s1 _ _ hw), upd_same, (sm.trans s1).trans (same_upd hp)⟩
    obtain ⟨ps, rfl, hw, hs, sm⟩ := h2
    have ha3 := sm _ _ ha
    refine ⟨fun σ H5 => ∃ ps, σ = [some (.ref a), some (.ref pw), some (.ref ps), none, none] ∧ H5 pw = some (.lst (words.map V.str)) ∧ H5 ps = some (.lst (((bits n).take 16).map V.bl)) ∧ Same H H5, ?_, fun σ2 H5 h2 => ?_⟩
    · refine ⟨_, rfl, _, rfl, a, D, _, _, _, rfl, ha3, kd.ec, fun _ r => r, kd.kits.at 12 rfl, _, rfl, a, D, _, _, _, rfl, ha3, kd.ec, fun _ r => r, kd.kits.at 13 rfl, _, rfl, a, D, _, _, _, rfl, ha3, kd.ec, fun _ r => r, kd.kits.at 14 rfl, _, rfl, a, D, _, _, _, rfl, ha3, kd.ec, fun _ r => r, kd.kits.at 15 rfl, by show 4 ≤ sizeLine; decide, fun l hl => ?_⟩
      have s1 := same_upd (o := .lst (([12 == n, 13 == n, 14 == n, 15 == n] : List Bool).map V.bl)) hl
      refine ⟨_, _, _, _, rfl, rfl, s1 _ _ hs, upd_same, by show 16 ≤ sizeLine; decide, fun p hp => ?_⟩
      exact ⟨p, rfl, (same_upd hp) _ _ (s1 _ _ hw), upd_same, (sm.trans s1).trans (same_upd hp)⟩
    obtain ⟨ps, rfl, hw, hs, sm⟩ := h2
    have ha4 := sm _ _ ha
    refine ⟨fun σ H6 => ∃ ps, σ = [some (.ref a), some (.ref pw), some (.ref ps), none, none] ∧ H6 pw = some (.lst (words.map V.str)) ∧ H6 ps = some (.lst (((bits n).take 20).map V.bl)) ∧ Same H H6, ?_, fun σ2 H6 h2 => ?_⟩
    · refine ⟨_, rfl, _, rfl, a, D, _, _, _, rfl, ha4, kd.ec, fun _ r => r, kd.kits.at 16 rfl, _, rfl, a, D, _, _, _, rfl, ha4, kd.ec, fun _ r => r, kd.kits.at 17 rfl, _, rfl, a, D, _, _, _, rfl, ha4, kd.ec, fun _ r => r, kd.kits.at 18 rfl, _, rfl, a, D, _, _, _, rfl, ha4, kd.ec, fun _ r => r, kd.kits.at 19 rfl, by show 4 ≤ sizeLine; decide, fun l hl => ?_⟩
      have s1 := same_upd (o := .lst (([16 == n, 17 == n, 18 == n, 19 == n] : List Bool).map V.bl)) hl
      refine ⟨_, _, _, _, rfl, rfl, s1 _ _ hs, upd_same, by show 20 ≤ sizeLine; decide, fun p hp => ?_⟩
      exact ⟨p, rfl, (same_upd hp) _ _ (s1 _ _ hw), upd_same, (sm.trans s1).trans (same_upd hp)⟩
    obtain ⟨ps, rfl, hw, hs, sm⟩ := h2
    have ha5 := sm _ _ ha
    refine ⟨fun σ H7 => ∃ ps, σ = [some (.ref a), some (.ref pw), some (.ref ps), none, none] ∧ H7 pw = some (.lst (words.map V.str)) ∧ H7 ps = some (.lst (((bits n).take 22).map V.bl)) ∧ Same H H7, ?_, fun σ2 H7 h2 => ?_⟩
    · refine ⟨_, rfl, _, rfl, a, D, _, _, _, rfl, ha5, kd.ec, fun _ r => r, kd.kits.at 20 rfl, _, rfl, a, D, _, _, _, rfl, ha5, kd.ec, fun _ r => r, kd.kits.at 21 rfl, by show 2 ≤ sizeLine; decide, fun l hl => ?_⟩
      have s1 := same_upd (o := .lst (([20 == n, 21 == n] : List Bool).map V.bl)) hl
      refine ⟨_, _, _, _, rfl, rfl, s1 _ _ hs, upd_same, by show 22 ≤ sizeLine; decide, fun p hp => ?_⟩
      exact ⟨p, rfl, (same_upd hp) _ _ (s1 _ _ hw), upd_same, (sm.trans s1).trans (same_upd hp)⟩
    obtain ⟨ps, rfl, hw, hs, sm⟩ := h2
    have ha7 := sm _ _ ha
    obtain ⟨c1, c2, c3⟩ := bits_all n n22
    have hs2 : H7 ps = some (.lst ((bits n).map V.bl)) := hs
    have fl : ((bits n).map V.bl).all flatV = true := by
      rw [List.all_map]
      exact List.all_eq_true.mpr fun _ _ => rfl
    refine ⟨_, rfl, .inl ⟨rfl, _, SqL.of hs2⟩, ps, _, _, rfl, rfl, SqL.of hs2, rfl, fl, rfl, _, rfl, iteNS (congrArg V.int (by rw [c1]; rfl)) ?_⟩
    refine ⟨_, rfl, .inl ⟨rfl, _, SqL.of hs2⟩, ps, _, _, n, _, rfl, rfl, SqL.of hs2, rfl, fl, by rw [List.getElem?_map, c2]; rfl, rfl, fun m z hm hz => ?_, ?_⟩
    · rw [List.getElem?_map, c3 m hm] at hz
      cases hz
      rfl
    refine ⟨_, rfl, _, 18, rfl, rfl, _, rfl, ?_⟩
    by_cases n18 : n < 18
    · refine iteD1 (by omega) ?_
      refine ⟨_, rfl, a, D, _, _, _, rfl, ha7, kd.ec, fun _ r => r, kd.te, _, rfl, iteD1 n18 ?_⟩
      refine ⟨_, rfl, a, D, _, _, _, rfl, ha7, kd.ec, fun _ r => r, kd.ve, _, rfl, iteD1 n18 ?_⟩
      refine ⟨_, rfl, _, rfl, pw, _, _, _, rfl, rfl, SqL.of hw, atI_nat (by rw [List.getElem?_map, words_at n n22]; rfl), ?_⟩
      exact q _ sm
    refine iteD0 (by omega) ?_
    refine ⟨fun σ H8 => ∃ pu, σ = [some (.ref a), some (.ref pw), some (.ref ps), some (.int n), some (.ref pu)] ∧ H8 pw = some (.lst (words.map V.str)) ∧ H8 pu = some (.lst [.bl (n == 18), .bl (n == 19), .bl (n == 20)]) ∧ Same H H8 ∧ H pu = none, ?_, fun σ3 H8 h3 => ?_⟩
    · refine ⟨_, rfl, a, D, _, _, _, rfl, ha7, kd.ec, fun _ r => r, kd.kz, _, rfl, a, D, _, _, _, rfl, ha7, kd.ec, fun _ r => r, kd.ky, _, rfl, a, D, _, _, _, rfl, ha7, kd.ec, fun _ r => r, kd.ki, by show 3 ≤ sizeLine; decide, fun l hl => ?_⟩
      exact ⟨l, rfl, (same_upd hl) _ _ hw, upd_same, sm.trans (same_upd hl), sm.free hl⟩
    obtain ⟨pu, rfl, hw8, hu8, sm8, fu⟩ := h3
    have ha8 := sm8 _ _ ha
    have nu : pw ≠ pu := fun z => by
      rw [z, hu8] at hw8
      cases hw8
    have tail : ∀ (H9 : Hp) (b3 : Bool), H9 pw = some (.lst (words.map V.str)) → H9 pu = some (.lst [.bl (n == 18), .bl (n == 19), .bl (n == 20), .bl b3]) → Same H H9 → (n = 21 → b3 = true) → (∃ b3, H9 pu = some (.lst [.bl (n == 18), .bl (n == 19), .bl (n == 20), .bl b3]) ∧ (n = 21 → b3 = true)) := fun H9 b3 _ h _ z => ⟨b3, h, z⟩
    refine ⟨fun σ H9 => σ = [some (.ref a), some (.ref pw), some (.ref ps), some (.int n), some (.ref pu)] ∧ H9 pw = some (.lst (words.map V.str)) ∧ Same H H9 ∧ ∃ b3, H9 pu = some (.lst [.bl (n == 18), .bl (n == 19), .bl (n == 20), .bl b3]) ∧ (n = 21 → b3 = true), ?_, fun σ4 H9 h4 => ?_⟩
    · refine ⟨_, rfl, .inl ⟨rfl, _, SqL.of hu8⟩, _, rfl, a, D, _, _, _, rfl, ha8, kd.ec, fun _ r => r, kd.kl, _, rfl, ?_⟩
      refine ite2 (fun z => ?_) fun z => ?_
      · refine ⟨_, rfl, by show 2 ≤ sizeLine; decide, fun tp htp => ?_⟩
        have s9 := same_upd (o := .tup [.ty "KeyError", .ty "IndexError"]) htp
        refine ⟨a, D, tp, _, _, _, rfl, s9 _ _ ha8, kd.ec, upd_same, .cons (.ty _) (.cons (.ty _) .nil), kd.kt, _, rfl, ?_⟩
        refine ⟨pu, _, _, rfl, rfl, s9 _ _ hu8, by show 3 < sizeLine; decide, rfl, ?_, ?_, _, upd_same, fun e => ?_⟩
        · rw [upd_ne nu]
          exact s9 _ _ hw8
        · intro b o e
          rw [upd_ne (ne_of_none e fu)]
          exact s9 _ _ (sm8 _ _ e)
        · subst e
          rfl
      · refine ⟨pu, _, _, rfl, rfl, hu8, by show 3 < sizeLine; decide, rfl, ?_, ?_, _, upd_same, fun e => ?_⟩
        · rw [upd_ne nu]
          exact hw8
        · intro b o e
          rw [upd_ne (ne_of_none e fu)]
          exact sm8 _ _ e
        · exact absurd (decide_eq_true (show 19 ≤ n by omega)) z
    obtain ⟨rfl, hw9, sm9, b3, hu9, hb3⟩ := h4
    have ha9 := sm9 _ _ ha
    have ix : atI [V.bl (n == 18), V.bl (n == 19), V.bl (n == 20), V.bl b3] ((n : Int) - 18) = some (.bl true) := by
      have : n = 18 ∨ n = 19 ∨ n = 20 ∨ n = 21 := by omega
      rcases this with rfl | rfl | rfl | rfl
      · exact atI_nat (j := 0) rfl
      · exact atI_nat (j := 1) rfl
      · exact atI_nat (j := 2) rfl
      · rw [hb3 rfl]; exact atI_nat (j := 3) rfl
    refine ⟨_, rfl, _, rfl, _, 18, rfl, rfl, pu, _, _, _, rfl, rfl, SqL.of hu9, ix, true, rfl, iteT ?_⟩
    refine ⟨_, rfl, a, D, _, _, _, rfl, ha9, kd.ec, fun _ r => r, kd.te, _, rfl, ?_⟩
    rw [decide_eq_false n18]
    refine iteT ?_
    refine ⟨_, rfl, _, rfl, pw, _, _, _, rfl, rfl, SqL.of hw9, atI_nat (by rw [List.getElem?_map, words_at n n22]; rfl), ?_⟩
    exact q _ sm9
end
end TC
namespace TC
open PySem PySem.Spec PyProof.Rows L2 TCA TCX
theorem iteB {b : Bool} {A B : Prop} (h1 : b = true → A) (h2 : b = false → B) : if b = true then A else B := by
  cases b
  · exact iteF (h2 rfl)
  · exact iteT (h1 rfl)
/-- a type of the kinds that are no numbers -/
def noNums : List String := ["int", "NoneType", "str", "tuple", "list", "bool", "dict"]
/-- v is no exact number -/
def NotNum (K : PySem.W.Frag) (C : Addr) (H : Hp) (v : V) : Prop := ∃ t, TyX K H v t ∧ PySem.W.kitOne K t (.ref C) = some false
/-- v is no whole number -/
def NotInt (K : PySem.W.Frag) (H : Hp) (v : V) : Prop := ∃ (t : Value) (bi bb : Bool), TyX K H v t ∧ PySem.W.kitOne K t (.type "int") = some bi ∧ PySem.W.kitOne K t (.type "bool") = some bb ∧ (bi && !bb) = false
theorem tyX_same {K : PySem.W.Frag} {H H' : Hp} {v : V} {t : Value} (h : TyX K H v t) (s : Same H H') : TyX K H' v t := by
  cases h with
  | base b =>
    cases b with
    | non => exact .base .non
    | bl y => exact .base (.bl y)
    | int i => exact .base (.int i)
    | str y => exact .base (.str y)
    | flt y => exact .base (.flt y)
    | lst e => exact .base (.lst (s _ _ e))
    | frz e => exact .base (.frz (s _ _ e))
    | tup e => exact .base (.tup (s _ _ e))
    | dK e => exact .base (.dK (s _ _ e))
    | dT e => exact .base (.dT (s _ _ e))
    | ins e cl ha hn htk hm => exact .base (.ins (s _ _ e) cl ha hn htk hm)
  | byt y => exact .byt y
  | set e => exact .set (s _ _ e)
  | kList e c => exact .kList e c
  | kTuple e c => exact .kTuple e c
  | kDict e c => exact .kDict e c
  | fTuple e => exact .fTuple (s _ _ e)
  | fDict e => exact .fDict (s _ _ e)
theorem NotNum.same {K : PySem.W.Frag} {C : Addr} {H H' : Hp} {v : V} (h : NotNum K C H v) (s : Same H H') : NotNum K C H' v := by
  obtain ⟨t, h1, h2⟩ := h
  exact ⟨t, tyX_same h1 s, h2⟩
theorem NotInt.same {K : PySem.W.Frag} {H H' : Hp} {v : V} (h : NotInt K H v) (s : Same H H') : NotInt K H' v := by
  obtain ⟨t, bi, bb, h1, h2⟩ := h
  exact ⟨t, bi, bb, tyX_same h1 s, h2⟩
/-- what the program's text says of an exception class without fields -/
structure XTxt (K : PySem.W.Frag) (mg : Str → Option Value) (x : Str) (C : Addr) : Prop where
  g : mg x = some (.ref C)
  e : PySem.W.excIn K C He.veBase "ValueError.__new__" = true
  k : PySem.W.keepIn K (.ref C) = true
  b : PySem.W.subIn K (.ref C) (.type "BaseException") = some true
  t : PySem.W.typeIn K (.ref C) = some (.type "type")
structure ZTxt (K : PySem.W.Frag) (mg : Str → Option Value) (x : Str) (C : Addr) : Prop where
  g : mg x = some (.ref C)
  e : PySem.W.excIn K C zBase "ZeroDivisionError.__new__" = true
  k : PySem.W.keepIn K (.ref C) = true
  b : PySem.W.subIn K (.ref C) (.type "BaseException") = some true
  t : PySem.W.typeIn K (.ref C) = some (.type "type")
section
variable {P : Program} {w : World} {K : PySem.W.Frag} {mg : Str → Option Value} {base : Heap} {f : Addr} {fd : FuncData} {C fI fQ CN CB fN fM fG : Addr} {fdN fdM fdG : FuncData}
/-! ### is_whole of anything -/
def spWholeX (K : PySem.W.Frag) : Sp := fun vs H Q _ => (∃ n : Int, vs = [.int n] ∧ Q (.bl true) H) ∨ ∃ v, vs = [v] ∧ NotInt K H v ∧ Q (.bl false) H
theorem ok_wholeX (F : FnP K "is_whole" sWhole f fd) (gI : mg "isinstance" = none) (gi : mg "int" = none) (gb : mg "bool" = none) : FnOk P w K mg base CX0 1 f fd ["thing"] (spWholeX K) := by
  refine F.ok scWhole (fun vs H Q E h => ?_) (fun cdv A outer s H vs Q E hr h => ?_)
  · rcases h with ⟨n, rfl, _⟩ | ⟨v, rfl, _⟩ <;> rfl
  · refine ⟨_, PSs.nox (pss_one (ps_ret (pe_and (pe_callB call_isi (by rfl) gI (by decide +kernel) (pa_cons (pv 0) (pa_cons (pe_bltn (v := .ty "int") (by rfl) gi (by decide +kernel) rfl) pa_nil)))
      (pe_one (pe_not (pe_callB call_isi (by rfl) gI (by decide +kernel) (pa_cons (pv 0) (pa_cons (pe_bltn (v := .ty "bool") (by rfl) gb (by decide +kernel) rfl) pa_nil)))))))), ?_⟩
    rcases h with ⟨n, rfl, q⟩ | ⟨v, rfl, ⟨t, bi, bb, ty, ki, kb, e⟩, q⟩
    · refine ⟨_, rfl, _, _, _, _, true, rfl, .ty "int", .base (.int n), kit_ty (by decide +kernel), true, rfl, iteT ?_⟩
      exact ⟨_, rfl, _, _, _, _, false, rfl, .ty "bool", .base (.int n), kit_ty (by decide +kernel), false, rfl, q⟩
    · refine ⟨_, rfl, _, _, _, _, bi, rfl, .ty "int", ty, ki, bi, rfl, iteB (fun z => ?_) fun z => q⟩
      subst z
      refine ⟨_, rfl, _, _, _, _, bb, rfl, .ty "bool", ty, kb, bb, rfl, ?_⟩
      have e2 : (!bb) = false := e
      rw [e2]
      exact q
/-! ### need_exact -/
def spNeedX (K : PySem.W.Frag) (C CN : Addr) : Sp := fun vs H Q E => (∃ (x : Addr) (L : List Part), vs = [.ref x] ∧ NumAt C H x L ∧ Q .non H) ∨ (∃ v, vs = [v] ∧ NotNum K C H v ∧ E (.ref CN) none H)
theorem ok_needX (F : FnP K "need_exact" sNeed f fd) (T : TxtN K mg C fI fQ) (X : XTxt K mg "NoNumber" CN) (gI : mg "isinstance" = none) : FnOk P w K mg base (L2.CX P w) 1 f fd ["thing"] (spNeedX K C CN) := by
  refine F.ok scNeed (fun vs H Q E h => ?_) (fun cdv A outer s H vs Q E hr h => ?_)
  · rcases h with ⟨x, L, rfl, _⟩ | ⟨v, rfl, _⟩ <;> rfl
  · refine ⟨_, pss_one (ps_if (pt_not (pt_val (pe_callB call_isi (by rfl) gI (by decide +kernel) (pa_cons (pv 0) (pa_cons (pe_glob (v := .ref C) (by rfl) T.mgC rfl) pa_nil)))))
      (pss_one (ps_raise rfl (takes_of rfl rfl rfl rfl) (pmk_own PySem.F.excBase_ValueError X.e X.g X.k (raises_own X.b X.t) rfl))) pss_nil), ?_⟩
    rcases h with ⟨x, L, rfl, hN, q⟩ | ⟨v, rfl, ⟨t, ty, kt⟩, q⟩
    · obtain ⟨dx, p, h1, h2⟩ := hN
      exact ⟨_, rfl, _, _, _, _, true, rfl, .own C, T.ty h1, kit_self, true, rfl, iteF q⟩
    · exact ⟨_, rfl, _, _, _, _, false, rfl, .own C, ty, kt, false, rfl, iteT q⟩
/-! ### two asked, one of which is no number -/
def spTwo (K : PySem.W.Frag) (C CN : Addr) : Sp := fun vs H Q E => ∃ u v, vs = [u, v] ∧ (NotNum K C H u ∨ ((∃ x L, u = .ref x ∧ NumAt C H x L) ∧ NotNum K C H v)) ∧ E (.ref CN) none H
theorem ok_two {x : Str} {st : Stmt} {N : List Str} {rest : List Stmt} {p1 p2 p3 p4 p5 p6 p7 p8 : Pos} (F : FnP K x st f fd) (S : FnScope N ["one", "other"] (defScope st)) (n0 : N[0]? = some ("one" : Str)) (n1 : N[1]? = some ("other" : Str))
    (hb : defBody st = .Expr (.Call (.Name "need_exact" p1) [.Name "one" p2] [] p3) p4 :: .Expr (.Call (.Name "need_exact" p5) [.Name "other" p6] [] p7) p8 :: rest)
    (v0 : Vis (defScope st) "one") (v1 : Vis (defScope st) "other") (hg : (defScope st).names.lookup ("need_exact" : Str) = some NameKind.globalImplicit) (start2 : ∀ u v : V, (L2.start N [u, v])[0]? = some (some u) ∧ (L2.start N [u, v])[1]? = some (some v))
    (GN : FnOk P w K mg base (L2.CX P w) 1 fN fdN ["thing"] (spNeedX K C CN)) (bN : L2.Binds K fdN ["thing"] []) (kN : PySem.W.keepIn K (.ref fN) = true) (gN : mg "need_exact" = some (.ref fN)) :
    FnOk P w K mg base (L2.CX P w) 2 f fd ["one", "other"] (spTwo K C CN) := by
  refine F.ok S (fun vs H Q E h => ?_) (fun cdv A outer s H vs Q E hr h => ?_)
  · obtain ⟨u, v, rfl, _⟩ := h
    rfl
  · obtain ⟨u, v, rfl, hd, q⟩ := h
    rw [hb]
    refine ⟨_, pss_cons (ps_expr (pe_call GN hr hg gN kN bN .nil (passes_call (takes_of rfl rfl rfl rfl) fun _ _ _ _ z => z) (pa_cons (pe_var (i := 0) n0 v0) pa_nil)))
      (pss_cons (ps_expr (pe_call GN hr hg gN kN bN .nil (passes_call (takes_of rfl rfl rfl rfl) fun _ _ _ _ z => z) (pa_cons (pe_var (i := 1) n1 v1) pa_nil))) pss_never), ?_⟩
    obtain ⟨e0, e1⟩ := start2 u v
    rcases hd with h | ⟨⟨x, L, rfl, hN⟩, h⟩
    · exact ⟨_, e0, .inr ⟨_, rfl, h, q⟩⟩
    · exact ⟨_, e0, .inl ⟨x, L, rfl, hN, _, e1, .inr ⟨_, rfl, h, q⟩⟩⟩
end
end TC
namespace TC
set_option exponentiation.threshold 100000
open PySem PySem.Spec PyProof.Rows L2 TCA TCX
section
variable {P : Program} {w : World} {K : PySem.W.Frag} {mg : Str → Option Value} {base : Heap} {f : Addr} {fd : FuncData} {C fI fQ CN fN : Addr} {fdN : FuncData}
theorem eq_nil {H : Hp} {p t : Addr} {L : List Part} (hp : PartsL H p L) (ht : H t = some (.tup [])) : ∃ d e, Dp K H (.ref p) d ∧ Dp K H (.ref t) e ∧ SeqAt.shaped d = true ∧ SeqAt.shaped e = true ∧ PyData.eqv d e = decide (L = []) :=
  ⟨toD L, .tuple [], hp.dp, .tup (SqT.of ht) .nil, toD_shaped L, rfl, toD_eqv L []⟩
/-! ### sign of one part above 0 -/
def spSign1 (C : Addr) : Sp := fun vs H Q _ => ∃ (x : Addr) (y : Part), vs = [.ref x] ∧ NumAt C H x [y] ∧ 0 < y.1 ∧ y.1 < 2 ^ 410 ∧ 0 < y.2.num ∧ y.2.num < 2 ^ 110 ∧ y.2.den < 2 ^ 500 ∧ ∀ H', Same H H' → Q (.int 1) H'
theorem scSign : FnScope ["one", "bits", "low", "high"] ["one"] (defScope sSign) := ⟨rfl, rfl, rfl, by decide +kernel, rfl, by decide +kernel, by decide +kernel⟩
theorem ok_sign1 {fB : Addr} {fdB : FuncData} {tF : Tok} (F : FnP K "sign" sSign f fd) (T : TxtN K mg C fI fQ) (GN : FnOk P w K mg base CX0 1 fN fdN ["thing"] (spNeed C)) (bN : L2.Binds K fdN ["thing"] []) (kN : PySem.W.keepIn K (.ref fN) = true) (gN : mg "need_exact" = some (.ref fN))
    (GB : FnOk P w K mg base CX0 2 fB fdB ["parts", "bits"] spBounds) (bB : L2.Binds K fdB ["parts", "bits"] []) (kB : PySem.W.keepIn K (.ref fB) = true) (gB : mg "bounds" = some (.ref fB)) (gF : mg "FIRST_BITS" = some (.int 64 tF)) : FnOk P w K mg base CX0 3 f fd ["one"] (spSign1 C) := by
  refine F.ok scSign (fun vs H Q E h => ?_) (fun cdv A outer s H vs Q E hr h => ?_)
  · obtain ⟨a, x, rfl, _⟩ := h
    rfl
  · obtain ⟨x, y, rfl, hx, r0, r1, t0, t1, d1, q⟩ := h
    have hr1 := hr.mono (j := 1) (by decide)
    refine ⟨_, PSs.nox (pss_cons (ps_expr (pe_call GN hr1 (by rfl) gN kN bN .nil pass0 (pa_cons (pv 0) pa_nil)))
      (pss_cons (ps_if (pt_cmpR (op_eqD hr.units) (pe_fld (pv 0) rfl) (pe_tup pa_nil) (nomark _)) (pss_one (ps_ret pe_int)) pss_nil)
      (pss_cons (ps_set (i := 1) scSign.nd rfl (.inl rfl) (pe_glob (v := .int 64) (by rfl) gF ⟨_, rfl⟩))
      (pss_one (ps_while PassesOwn.never (pt_val pe_bl)
        (pss_cons (ps_asg (pe_call GB hr (by rfl) gB kB bB .nil pass0 (pa_cons (pe_fld (pv 0) rfl) (pa_cons (pv 1) pa_nil))) (pg_tup rfl (pgs_cons (pg_name (i := 2) scSign.nd rfl (.inl rfl)) (pgs_cons (pg_name (i := 3) scSign.nd rfl (.inl rfl)) pgs_nil))))
        (pss_cons (ps_if (pt_cmpR op_ge (pv 2) pe_int (nomark _)) (pss_one (ps_ret pe_int)) pss_nil) pss_never))))))), ?_⟩
    refine ⟨_, rfl, x, _, rfl, hx, ?_⟩
    obtain ⟨dx, p, h1, hp⟩ := hx
    refine ⟨_, rfl, x, C, dx, _, _, rfl, h1, T.cl, T.nP, rfl, by show 0 ≤ sizeLine; decide, fun t ht => ?_⟩
    have s1 := same_upd (o := .tup []) ht
    obtain ⟨d, e, e1, e2, e3, e4, e5⟩ := eq_nil (K := K) (hp.same s1) upd_same
    refine ⟨d, e, e1, e2, e3, e4, _, congrArg V.bl e5, iteD0 (fun z => by cases z) ?_⟩
    refine ⟨fun m σ H' => σ = [some (.ref x), some (.int 64), none, none] ∧ H' = upd H t (.tup []), ⟨0, rfl, rfl⟩, fun m σ H' hW => ?_⟩
    obtain ⟨rfl, rfl⟩ := hW
    refine ⟨true, rfl, iteT ⟨fun _ _ => False, fun _ _ z => z.elim, ?_⟩⟩
    refine ⟨_, rfl, x, C, dx, _, _, rfl, s1 _ _ h1, T.cl, T.nP, rfl, _, rfl, p, y, rfl, hp.same s1, r0, r1, t0, t1, d1, fun c lo hi H2 s2 l0 hc => ?_⟩
    refine ⟨c, _, rfl, SqT.of hc, rfl, _, _, rfl, _, _, rfl, rfl, ?_⟩
    refine ⟨_, rfl, lo, 0, rfl, rfl, _, rfl, iteD1 l0 ?_⟩
    exact q _ (s1.trans s2)
end
end TC
namespace TC
set_option exponentiation.threshold 100000
open PySem PySem.Spec PyProof.Rows L2 TCA TCX
/-- what makes root_of refuse a number that isn't 0 -/
def WhyNot (y : Part) (Ls : List Part) : Prop := Ls ≠ [] ∨ y.1 ≠ 1 ∨ y.2.num < 0 ∨ 10 ^ 60 ≤ y.2.num ∨ (10 ^ 60 : Int) ≤ (y.2.den : Int) ∨ (∃ o i r, Sq y.2.num o i r ∧ r ≠ 1) ∨ (∃ o i r, Sq (y.2.den : Int) o i r ∧ r ≠ 1)
structure Rooted (C : Addr) (H : Hp) (y : Part) (Ls : List Part) (q : Addr → Hp → Prop) (e : Hp → Prop) : Prop where
  nz : y.2.num ≠ 0
  no : WhyNot y Ls → ∀ H', Same H H' → e H'
  yes : Ls = [] → y.1 = 1 → y.2.num < 10 ^ 60 → (y.2.den : Int) < 10 ^ 60 → ∀ o i o' i', Sq y.2.num o i 1 → Sq (y.2.den : Int) o' i' 1 → ∀ z H', Same H H' → NumAt C H' z [(i * i', Rat.divInt o (o' * i'))] → q z H'
theorem Sq.le {n o i r : Int} (h : Sq n o i r) : o ≤ n ∧ i ≤ n ∧ o * i ≤ n := by
  obtain ⟨o0, i0, r0, e, _⟩ := h
  have h1 : 0 < o * i := Int.mul_pos o0 i0
  have h2 : 0 < o * r := Int.mul_pos o0 r0
  have e1 : n = (o * i) * (o * r) := by
    rw [e]
    grind
  have k1 : o * i ≤ n := by
    have := Int.mul_le_mul_of_nonneg_left (show 1 ≤ o * r by omega) (Int.le_of_lt h1)
    rw [Int.mul_one, ← e1] at this
    exact this
  have k2 : o ≤ o * i := by
    have := Int.mul_le_mul_of_nonneg_left (show 1 ≤ i by omega) (Int.le_of_lt o0)
    rw [Int.mul_one] at this
    exact this
  have k3 : i ≤ o * i := by
    have := Int.mul_le_mul_of_nonneg_right (show 1 ≤ o by omega) (Int.le_of_lt i0)
    rw [Int.one_mul] at this
    exact this
  omega
section
variable {P : Program} {w : World} {K : PySem.W.Frag} {mg : Str → Option Value} {base : Heap} {f : Addr} {fd : FuncData} {C fI fQ CN fN : Addr} {fdN : FuncData}
def spRoot (K : PySem.W.Frag) (C CN : Addr) : Sp := fun vs H Q E => ∃ v, vs = [v] ∧ ((NotNum K C H v ∧ E (.ref CN) none H) ∨ (∃ x, v = .ref x ∧ NumAt C H x [] ∧ ∀ H', Same H H' → Q v H') ∨ ∃ x y Ls, v = .ref x ∧ NumAt C H x (y :: Ls) ∧ Rooted C H y Ls (fun z H' => Q (.ref z) H') (fun H' => E (.ref CN) none H'))
theorem scRoot : FnScope ["one", "root", "top", "bottom", "outside", "inside", "rest", "outside_below", "inside_below", "rest_below"] ["one"] (defScope sRootOf) := ⟨rfl, rfl, rfl, by decide +kernel, rfl, by decide +kernel, by decide +kernel⟩
theorem ok_root {fSq fLw : Addr} {fdSq fdLw : FuncData} {tT : Tok} (F : FnP K "root_of" sRootOf f fd) (T : TxtN K mg C fI fQ) (X : XTxt K mg "NoNumber" CN) (GN : FnOk P w K mg base (L2.CX P w) 1 fN fdN ["thing"] (spNeedX K C CN)) (bN : L2.Binds K fdN ["thing"] []) (kN : PySem.W.keepIn K (.ref fN) = true) (gN : mg "need_exact" = some (.ref fN))
    (GSq : FnOk P w K mg base CX0 1 fSq fdSq ["number"] spSqBig) (bSq : L2.Binds K fdSq ["number"] []) (kSq : PySem.W.keepIn K (.ref fSq) = true) (gSq : mg "squares_out" = some (.ref fSq))
    (GLw : FnOk P w K mg base CX0 3 fLw fdLw ["tops", "bottom"] (spLowered C)) (bLw : L2.Binds K fdLw ["tops", "bottom"] []) (kLw : PySem.W.keepIn K (.ref fLw) = true) (gLw : mg "lowered" = some (.ref fLw))
    (gT : mg "TOO_LONG" = some (.int (10 ^ 60) tT)) (gl : mg "len" = none) : FnOk P w K mg base (L2.CX P w) 4 f fd ["one"] (spRoot K C CN) := by
  refine F.ok scRoot (fun vs H Q E h => ?_) (fun cdv A outer s H vs Q E hr h => ?_)
  · obtain ⟨v, rfl, _⟩ := h
    rfl
  · obtain ⟨v, rfl, h⟩ := h
    have hr1 := hr.mono (j := 1) (by decide)
    refine ⟨_, pss_cons (ps_expr (pe_call GN hr1 (by rfl) gN kN bN .nil (passes_call (takes_of rfl rfl rfl rfl) fun _ _ _ _ z => z) (pa_cons (pv 0) pa_nil)))
      (pss_cons (ps_if (pt_cmpR (op_eqD hr.units) (pe_fld (pv 0) rfl) (pe_tup pa_nil) (nomark _)) (pss_one (ps_ret (pv 0))) pss_nil)
      (pss_cons (ps_asg (pe_ix ix_tup (pe_fld (pv 0) rfl) pe_int (fun _ _ => rfl)) (pg_tup rfl (pgs_cons (pg_name (i := 1) scRoot.nd rfl (.inl rfl)) (pgs_cons (pg_name (i := 2) scRoot.nd rfl (.inl rfl)) (pgs_cons (pg_name (i := 3) scRoot.nd rfl (.inl rfl)) pgs_nil)))))
      (pss_cons (ps_if (PW.pt (pw_or (pt_cmpR op_gt (pe_callB call_len_seq (by rfl) gl PySem.boot_len (pa_cons (pe_fld (pv 0) rfl) pa_nil)) pe_int (nomark _)) (pw_or (pt_cmpR op_ne (pv 1) pe_int (nomark _)) (pw_or1 (pt_cmpR op_lt (pv 2) pe_int (nomark _))))))
        (pss_one (ps_raise rfl (takes_of rfl rfl rfl rfl) (pmk_own PySem.F.excBase_ValueError X.e X.g X.k (raises_own X.b X.t) rfl))) pss_nil)
      (pss_cons (ps_if (PW.pt (pw_or (pt_cmpR op_ge (pv 2) (pe_glob (v := .int (10 ^ 60)) (by rfl) gT ⟨_, rfl⟩) (nomark _)) (pw_or1 (pt_cmpR op_ge (pv 3) (pe_glob (v := .int (10 ^ 60)) (by rfl) gT ⟨_, rfl⟩) (nomark _)))))
        (pss_one (ps_raise rfl (takes_of rfl rfl rfl rfl) (pmk_own PySem.F.excBase_ValueError X.e X.g X.k (raises_own X.b X.t) rfl))) pss_nil)
      (pss_cons (ps_asg (pe_call (lift0 GSq) hr1 (by rfl) gSq kSq bSq .nil (passes_call (takes_of rfl rfl rfl rfl) fun _ _ _ _ z => z) (pa_cons (pv 2) pa_nil)) (pg_tup rfl (pgs_cons (pg_name (i := 4) scRoot.nd rfl (.inl rfl)) (pgs_cons (pg_name (i := 5) scRoot.nd rfl (.inl rfl)) (pgs_cons (pg_name (i := 6) scRoot.nd rfl (.inl rfl)) pgs_nil)))))
      (pss_cons (ps_asg (pe_call (lift0 GSq) hr1 (by rfl) gSq kSq bSq .nil (passes_call (takes_of rfl rfl rfl rfl) fun _ _ _ _ z => z) (pa_cons (pv 3) pa_nil)) (pg_tup rfl (pgs_cons (pg_name (i := 7) scRoot.nd rfl (.inl rfl)) (pgs_cons (pg_name (i := 8) scRoot.nd rfl (.inl rfl)) (pgs_cons (pg_name (i := 9) scRoot.nd rfl (.inl rfl)) pgs_nil)))))
      (pss_cons (ps_if (PW.pt (pw_or (pt_cmpR op_ne (pv 6) pe_int (nomark _)) (pw_or1 (pt_cmpR op_ne (pv 9) pe_int (nomark _)))))
        (pss_one (ps_raise rfl (takes_of rfl rfl rfl rfl) (pmk_own PySem.F.excBase_ValueError X.e X.g X.k (raises_own X.b X.t) rfl))) pss_nil)
      (pss_one (ps_ret (pe_call (lift0 GLw) hr (by rfl) gLw kLw bLw .nil (passes_call (takes_of rfl rfl rfl rfl) fun _ _ _ _ z => z) (pa_cons (pe_disp (pps_cons (pe_op op_mulW (pv 5) (pv 8)) (pv 4) pps_nil) rfl rfl (by intro z; cases z) (by decide)) (pa_cons (pe_op op_mulW (pv 7) (pv 8)) pa_nil)))))))))))), ?_⟩
    rcases h with ⟨hn, q⟩ | ⟨x, rfl, hx, q⟩ | ⟨x, y, Ls, rfl, hx, nz, no, yes⟩
    · exact ⟨_, rfl, .inr ⟨_, rfl, hn, q⟩⟩
    · refine ⟨_, rfl, .inl ⟨x, _, rfl, hx, ?_⟩⟩
      obtain ⟨dx, p, h1, hp⟩ := hx
      refine ⟨_, rfl, x, C, dx, _, _, rfl, h1, T.cl, T.nP, rfl, by show 0 ≤ sizeLine; decide, fun t ht => ?_⟩
      have s1 := same_upd (o := .tup []) ht
      obtain ⟨d, e, e1, e2, e3, e4, e5⟩ := eq_nil (K := K) (hp.same s1) upd_same
      refine ⟨d, e, e1, e2, e3, e4, _, congrArg V.bl e5, iteD1 rfl ?_⟩
      exact ⟨_, rfl, q _ s1⟩
    · refine ⟨_, rfl, .inl ⟨x, _, rfl, hx, ?_⟩⟩
      obtain ⟨dx, p, h1, hp⟩ := hx
      refine ⟨_, rfl, x, C, dx, _, _, rfl, h1, T.cl, T.nP, rfl, by show 0 ≤ sizeLine; decide, fun t ht => ?_⟩
      have s1 := same_upd (o := .tup []) ht
      obtain ⟨d, e, e1, e2, e3, e4, e5⟩ := eq_nil (K := K) (hp.same s1) upd_same
      refine ⟨d, e, e1, e2, e3, e4, _, congrArg V.bl e5, iteD0 (fun z => by cases z) ?_⟩
      replace hp := hp.same s1
      replace h1 := s1 _ _ h1
      replace no : ∀ H', WhyNot y Ls → Same (upd H t (.tup [])) H' → E (.ref CN) none H' := fun H' z sm => no z _ (s1.trans sm)
      replace yes := fun a b c d o i o' i' h1 h2 z H' (sm : Same (upd H t (.tup [])) H') => yes a b c d o i o' i' h1 h2 z H' (s1.trans sm)
      generalize upd H t (.tup []) = H1 at hp h1 no yes ⊢
      clear e1 e2
      obtain ⟨us, hpp, hrefs⟩ := hp
      cases us with
      | nil => cases hrefs
      | cons u us =>
      obtain ⟨hu, hrefs⟩ := hrefs
      refine ⟨_, rfl, x, C, dx, _, _, rfl, h1, T.cl, T.nP, rfl, p, _, 0, .ref u, rfl, rfl, SqT.of hpp, atI_nat (j := 0) rfl, u, _, rfl, SqT.of hu, rfl, _, _, rfl, _, _, rfl, _, _, rfl, rfl, ?_⟩
      refine ⟨_, rfl, x, C, dx, _, _, rfl, h1, T.cl, T.nP, rfl, p, _, rfl, .inr (SqT.of hpp), _, 1, rfl, rfl, _, rfl, ?_⟩
      have hlen : us.length = Ls.length := hrefs.len
      by_cases hL : ¬ (Ls = [])
      · refine iteD1 ?_ (iteT (no _ (.inl hL) (Same.refl _)))
        have : 0 < Ls.length := List.length_pos_iff.mpr hL
        rw [List.length_map, List.length_cons]
        omega
      replace hL := Classical.not_not.mp hL
      refine iteD0 ?_ ?_
      · rw [List.length_map, List.length_cons, hlen, hL]
        decide
      by_cases hy1 : ¬ (y.1 = 1)
      · exact ⟨_, rfl, rfl, _, rfl, iteNT (ine hy1) (iteT (no _ (.inr (.inl hy1)) (Same.refl _)))⟩
      replace hy1 := Classical.not_not.mp hy1
      refine ⟨_, rfl, rfl, _, rfl, iteNS (congrArg V.int hy1) ?_⟩
      by_cases hneg : y.2.num < 0
      · exact ⟨_, rfl, _, 0, rfl, rfl, _, rfl, iteD1 hneg (no _ (.inr (.inr (.inl hneg))) (Same.refl _))⟩
      refine ⟨_, rfl, _, 0, rfl, rfl, _, rfl, iteD0 hneg ?_⟩
      by_cases hlong : 10 ^ 60 ≤ y.2.num
      · exact ⟨_, rfl, _, _, rfl, rfl, _, rfl, iteD1 hlong (iteT (no _ (.inr (.inr (.inr (.inl hlong)))) (Same.refl _)))⟩
      refine ⟨_, rfl, _, _, rfl, rfl, _, rfl, iteD0 hlong ?_⟩
      by_cases hlong2 : (10 ^ 60 : Int) ≤ (y.2.den : Int)
      · exact ⟨_, rfl, _, _, rfl, rfl, _, rfl, iteD1 hlong2 (no _ (.inr (.inr (.inr (.inr (.inl hlong2))))) (Same.refl _))⟩
      refine ⟨_, rfl, _, _, rfl, rfl, _, rfl, iteD0 hlong2 ?_⟩
      have dpos : 0 < (y.2.den : Int) := by
        have := y.2.den_pos
        omega
      refine ⟨_, rfl, _, rfl, by omega, fun p1 o i r H2 s2 hp1 hs1 e1 => ?_⟩
      refine ⟨p1, _, rfl, SqT.of e1, rfl, _, _, rfl, _, _, rfl, _, _, rfl, rfl, ?_⟩
      refine ⟨_, rfl, _, rfl, dpos, fun p2 o' i' r' H3 s3 hp2 hs2 e2 => ?_⟩
      refine ⟨p2, _, rfl, SqT.of e2, rfl, _, _, rfl, _, _, rfl, _, _, rfl, rfl, ?_⟩
      have s23 := s2.trans s3
      by_cases hr1 : ¬ (r = 1)
      · exact ⟨_, rfl, rfl, _, rfl, iteNT (ine hr1) (iteT (no _ (.inr (.inr (.inr (.inr (.inr (.inl ⟨o, i, r, hs1, hr1⟩)))))) s23))⟩
      replace hr1 := Classical.not_not.mp hr1
      refine ⟨_, rfl, rfl, _, rfl, iteNS (congrArg V.int hr1) ?_⟩
      by_cases hr2 : ¬ (r' = 1)
      · exact ⟨_, rfl, rfl, _, rfl, iteNT (ine hr2) (no _ (.inr (.inr (.inr (.inr (.inr (.inr ⟨o', i', r', hs2, hr2⟩)))))) s23)⟩
      replace hr2 := Classical.not_not.mp hr2
      refine ⟨_, rfl, rfl, _, rfl, iteNS (congrArg V.int hr2) ?_⟩
      subst hr1 hr2
      obtain ⟨l1, l2, l3⟩ := hs1.le
      obtain ⟨l1', l2', l3'⟩ := hs2.le
      have big : (10 : Int) ^ 60 ≤ 2 ^ 200 := by decide
      have bnd : ∀ {z : Int}, 0 < z → (z ≤ y.2.num ∨ z ≤ (y.2.den : Int)) → z.natAbs < 2 ^ 200 := fun {z} z0 hz => abs_of_lt (Int.le_of_lt z0) (by omega)
      have oi0 := Int.mul_pos hs2.o0 hs2.i0
      intro d hd
      refine ⟨_, rfl, _, rfl, i, i', rfl, rfl, cmulw (bnd hs1.i0 (.inl l2)) (bnd hs2.i0 (.inr l2')) (by decide) (by decide) (by decide), _, rfl, upd_same, [(Sum.inl _, _)], rfl, by show 1 ≤ 15; decide, ?_⟩
      rw [upd_upd]
      have sm2 := same_upd (o := .dK (mergeK [] [((Sum.inl (i * i') : Key), V.int o)])) hd
      have hI : IntD (upd H3 d (.dK (mergeK [] [((Sum.inl (i * i') : Key), V.int o)]))) d [i * i'] (fun s => if s = i * i' then o else 0) := by
        refine ⟨_, upd_same, rfl, fun s hs => ?_, by simp, fun s hs => if_neg fun z => hs (List.mem_singleton.mpr z)⟩
        rw [List.mem_singleton.mp hs]
        show valV [((Sum.inl (i * i') : Key), V.int o)] (Sum.inl (i * i')) = some (V.int (if i * i' = i * i' then o else 0))
        rw [if_pos rfl]
        exact valV_pos rfl
      refine ⟨_, rfl, _, rfl, o', i', rfl, rfl, cmulw (bnd hs2.o0 (.inr l1')) (bnd hs2.i0 (.inr l2')) (by decide) (by decide) (by decide), d, _, _, _, 200, rfl, hI, by omega, bnd oi0 (.inr l3'), by decide, by decide, by show 1 ≤ 900; decide, fun z N H' sm3 hz hN cN vN lN => ?_⟩
      have o1 := hs1.o0
      have qn : Rat.divInt o (o' * i') ≠ 0 := divInt_ne (by omega) (by omega)
      have eN : N = [(i * i', Rat.divInt o (o' * i'))] := TCR.canon_eq cN (TCR.canon_one qn) fun s => by
        rw [vN, val_one]
        split
        · rfl
        · exact divInt_zero _
      rw [eN] at hN
      exact yes hL hy1 (by omega) (by omega) o i o' i' hs1 hs2 z H' ((s23.trans sm2).trans sm3) hN
end
end TC
namespace TC
set_option exponentiation.threshold 100000
open PySem PySem.Spec PyProof.Rows L2 TCA TCX
section
variable {P : Program} {w : World} {K : PySem.W.Frag} {mg : Str → Option Value} {base : Heap} {f : Addr} {fd : FuncData} {C fI fQ CN fN : Addr} {fdN : FuncData}
/-! ### _law_told -/
structure STxt (K : PySem.W.Frag) (mg : Str → Option Value) : Prop where
  g1 : mg "TurnError" = some (.ref (He.ga K "TurnError"))
  g2 : mg "ByNought" = some (.ref (He.ga K "ByNought"))
  g3 : mg "NoName" = some (.ref (He.ga K "NoName"))
  g4 : mg "NoPlace" = some (.ref (He.ga K "NoPlace"))
  g5 : mg "NothingDone" = some (.ref (He.ga K "NothingDone"))
def spTold (K : PySem.W.Frag) (C : Addr) : Sp := fun vs H Q _ => ∃ v, vs = [v] ∧ ((NotNum K C H v ∧ ∀ H', Same H H' → Q (.str "number") H') ∨ (∃ x, v = .ref x ∧ NumAt C H x [] ∧ ∀ H', Same H H' → Q v H') ∨ ∃ x y Ls, v = .ref x ∧ NumAt C H x (y :: Ls) ∧ Rooted C H y Ls (fun z H' => Q (.ref z) H') (fun H' => ∀ H2, Same H' H2 → Q (.str "number") H2))
abbrev nTold : List Str := ["_law_number", "_law_kept", "_law_e"]
theorem scTold : FnScope nTold ["_law_number"] (defScope sTold) := ⟨rfl, rfl, rfl, by decide +kernel, rfl, by decide +kernel, by decide +kernel⟩
abbrev cl5 (K : PySem.W.Frag) : List Value := [.ref (He.ga K "TurnError"), .ref (He.ga K "ByNought"), .ref (He.ga K "NoName"), .ref (He.ga K "NoPlace"), .ref (He.ga K "NothingDone")]
theorem ok_told {fA fW : Addr} {fdA fdW : FuncData} (F : FnP K "_law_told" sTold f fd) (S : STxt K mg) (GA : FnOk P w K mg base (L2.CX P w) 4 fA fdA ["one"] (spRoot K C CN)) (bA : L2.Binds K fdA ["one"] []) (kA : PySem.W.keepIn K (.ref fA) = true) (gA : mg "root_of" = some (.ref fA))
    (GW : FnOk P w K mg base CX0 1 fW fdW ["_law_e"] (spWord K)) (bW : L2.Binds K fdW ["_law_e"] []) (kW : PySem.W.keepIn K (.ref fW) = true) (gW : mg "_law_word" = some (.ref fW)) (kN : KindF K CN 5) :
    FnOk P w K mg base CX0 5 f fd ["_law_number"] (spTold K C) := by
  refine F.ok scTold (fun vs H Q E h => ?_) (fun cdv A outer s H vs Q E hr h => ?_)
  · obtain ⟨v, rfl, _⟩ := h
    rfl
  · obtain ⟨v, rfl, h⟩ := h
    have hr1 := hr.mono (j := 1) (by decide)
    refine ⟨_, PSs.nox (pss_cons (ps_set (i := 1) scTold.nd rfl (.inl rfl) pe_non)
      (pss_cons (ps_try_keep (tb := fun W => tRet (tCallS (spRoot K C CN) (WE W) (tCons (tVar 0) tNil))) rfl rfl rfl scTold.nd (fun W pn xe tk _ => pss_one (ps_ret (pe_callS GA hr (by rfl) gA kA bA (fun σ => passAt tk σ) (pa_cons (pv 0) pa_nil))))
        (HdK.cons (i := 2) (cs := cl5 K) (fun cls b z => tst_tup5 ⟨rfl, by decide, .inl S.g1⟩ ⟨rfl, by decide, .inl S.g2⟩ ⟨rfl, by decide, .inl S.g3⟩ ⟨rfl, by decide, .inl S.g4⟩ ⟨rfl, by decide, .inl S.g5⟩ z) rfl rfl (fun a cls d pn => pss_one (ps_set (i := 1) scTold.nd rfl (.inl rfl) (pv 2))) HdK.nil))
      (pss_one (ps_ret (pe_call GW hr1 (by rfl) gW kW bW .nil pass0 (pa_cons (pv 1) pa_nil)))))), ?_⟩
    have caught : ∀ (H' : Hp), (∀ H2, Same H' H2 → Q (.str "number") H2) → ∀ σ' : L2.St, σ' = [some v, some .non, none] → (σ'.length = nTold.length → wKeep K { nx := tRet (tCall (spWord K) [] E0 (tCons (tVar 1) tNil)) { nx := fun _ H' => Q .non H', rt := Q }, rt := Q } [(cl5 K, 2, fun a cls d => tAsg (tVar 2) (gName 1))] (.ref CN) none σ' H') := fun H' q σ' e _ => by
      subst e
      refine ⟨true, kN.x5, fun _ a ha => ?_, fun z => Bool.noConfusion z⟩
      have s2 := same_upd (o := ExV (.ref CN) none a) ha
      refine ⟨_, rfl, _, rfl, a, CN, 5, rfl, upd_same, kN, by decide, fun H2 s3 => q _ (s2.trans s3)⟩
    refine ⟨_, rfl, _, rfl, ?_⟩
    rcases h with ⟨hn, q⟩ | ⟨x, rfl, hx, q⟩ | ⟨x, y, Ls, rfl, hx, nz, no, yes⟩
    · exact .inl ⟨hn, caught _ q _ rfl⟩
    · exact .inr (.inl ⟨x, rfl, hx, q⟩)
    · exact .inr (.inr ⟨x, y, Ls, rfl, hx, nz, fun z H' s' => caught _ (no z H' s') _ rfl, yes⟩)
/-! ### smooth numbers -/
def menuP : List Int := [2, 2, 3, 5, 7, 11, 13, 31, 991, 997]
def Smooth (n : Int) : Prop := 0 < n ∧ ∀ d : Int, 0 < d → d ∣ n → d ≠ 1 → ∃ p ∈ TCM.primes, p ∣ d
theorem smooth_one : Smooth 1 := ⟨by decide, fun d h0 hd h1 => absurd (Int.eq_one_of_dvd_one (Int.le_of_lt h0) hd) h1⟩
theorem menu_prime : ∀ p ∈ menuP, p ∈ TCM.primes ∧ 0 < p ∧ p ≤ 997 ∧ ∀ g ∈ List.range 998, p.natAbs % g = 0 → g = 1 ∨ g = p.natAbs := by decide +kernel
theorem smooth_mul {n p : Int} (h : Smooth n) (hp : p ∈ menuP) : Smooth (n * p) := by
  obtain ⟨m1, m2, m3, m4⟩ := menu_prime p hp
  refine ⟨Int.mul_pos h.1 m2, fun d d0 hd d1 => ?_⟩
  by_cases hpd : p ∣ d
  · exact ⟨p, m1, hpd⟩
  · refine h.2 d d0 ?_ d1
    have g1 : Nat.gcd d.natAbs p.natAbs ∣ p.natAbs := Nat.gcd_dvd_right ..
    have g0 : 0 < Nat.gcd d.natAbs p.natAbs := Nat.gcd_pos_of_pos_right _ (by omega)
    have gl := Nat.le_of_dvd (by omega) g1
    rcases m4 _ (List.mem_range.mpr (show Nat.gcd d.natAbs p.natAbs < 998 by omega)) (Nat.mod_eq_zero_of_dvd g1) with e | e
    · have := Int.natAbs_dvd_natAbs.mpr hd
      rw [Int.natAbs_mul] at this
      exact Int.natAbs_dvd_natAbs.mp (Nat.Coprime.dvd_of_dvd_mul_right (show Nat.Coprime d.natAbs p.natAbs from e) this)
    · exfalso
      refine hpd (Int.natAbs_dvd_natAbs.mp ?_)
      rw [← e]
      exact Nat.gcd_dvd_left ..
theorem smooth_dvd {n d : Int} (h : Smooth n) (d0 : 0 < d) (hd : d ∣ n) : Smooth d := ⟨d0, fun e e0 he e1 => h.2 e e0 (Int.dvd_trans he hd) e1⟩
theorem smooth_sq {n o i r : Int} (h : Smooth n) (s : Sq n o i r) : r = 1 := by
  rcases s.rest with e | e
  · exact e
  · refine Classical.byContradiction fun h1 => ?_
    obtain ⟨p, hp, hd⟩ := h.2 r s.r0 ⟨o * o * i, by rw [s.eq, Int.mul_comm]⟩ h1
    exact e p hp hd
/-- none of the primes in it -/
theorem rough_sq {n o i : Int} (h1 : n ≠ 1) (h : ∀ p ∈ TCM.primes, n % p ≠ 0) (s : Sq n o i 1) : False := by
  have key : ∀ z, OnePr z → z ∣ n → z = 1 := fun z hz hd => by
    rcases hz with e | ⟨p, hp, hd2⟩
    · exact e
    · exact absurd (Int.emod_eq_zero_of_dvd (Int.dvd_trans hd2 hd)) (h p hp)
  have e := s.eq
  have eo := key o s.oP ⟨o * i, by rw [e]; grind⟩
  have ei := key i s.iP ⟨o * o, by rw [e]; grind⟩
  rw [eo, ei] at e
  exact h1 (by omega)
/-! ### _law_whole -/
theorem len_str {m : Int} (h0 : 0 ≤ m) (h : ((Str.ofString (toString m)).length : Int) ≤ 60) : m < 10 ^ 60 := by
  obtain ⟨k, rfl⟩ := Int.eq_ofNat_of_zero_le h0
  have e := text_ofNat k
  have e2 : (Str.ofString (toString (k : Int))).length = (Nat.toDigits 10 k).length := by
    show (Str.ofString (toString (Int.ofNat k))).length = _
    rw [e]
    show (((Nat.toDigits 10 k).map Char.toNat).toArray).size = _
    rw [List.size_toArray, List.length_map]
  refine Classical.byContradiction fun z => ?_
  have h3 : 10 ^ 60 ≤ k := by
    have : ((10 ^ 60 : Nat) : Int) = 10 ^ 60 := by decide
    omega
  have := digits10_ge h3
  omega
end
end TC
namespace TC
set_option exponentiation.threshold 100000
open PySem PySem.Spec PyProof.Rows L2 TCA TCX
/-! ### the roots that are drawn -/
def menu : List Int := [1, 2, 3, 5, 6, 7, 10, 15, 30, 42, 2310, 997, 1982, 13]
def roots16 : List Int := [1, 2, 3, 5, 6, 7, 10, 15, 30, 42, 2310, 997, 1982, 13, 1, 1]
theorem menu_of : ∀ v ∈ roots16, v ∈ menu := by decide
theorem menu_sq : ∀ r ∈ menu, TCM.sqOut r = (1, r, 1) := by decide +kernel
theorem menu_ok : ∀ r ∈ menu, RootOk r ∧ RootOk (r + 3) := by
  unfold RootOk
  decide +kernel
theorem ok_one : RootOk 1 := (menu_ok 1 (by decide)).1
theorem ex_menu {t b r : Int} (h : r ∈ menu) : exL t b r = oneL r t b := by
  unfold exL
  rw [menu_sq r h, Int.mul_one]
theorem val_ex {t b r : Int} (h : r ∈ menu) (s : Int) : TCR.val (exL t b r) s = if s = r then Rat.divInt t b else 0 := by rw [ex_menu h, val_oneL]
theorem ex_nil (b r : Int) : exL 0 b r = [] := by
  unfold exL oneL
  rw [Int.zero_mul, if_pos rfl]
/-! ### what stays through a drawing -/
theorem pen_ne {H : Hp} {p c b : Addr} {ms : List Int} {n : Int} {o : HO} (h : PenAt H p c ms n) (e : H b = some o) (ho : ∀ xs, o ≠ .lst xs) : b ≠ p := fun z => by
  obtain ⟨left, h1, _⟩ := h
  rw [z, h1] at e
  exact ho _ (Option.some.inj e).symm
theorem DictAt.but {H H' : Hp} {p c d : Addr} {ms : List Int} {n : Int} {ks : List Int} {g : Int → Rat} (sb : SameBut p H H') (hp : PenAt H p c ms n) (h : DictAt H d ks g) : DictAt H' d ks g := by
  obtain ⟨kvs, h1, h2, h3, h4, h5⟩ := h
  refine ⟨kvs, sb _ _ (pen_ne hp h1 fun xs e => by cases e) h1, h2, fun r hr => ?_, h4, h5⟩
  obtain ⟨u, u1, u2⟩ := h3 r hr
  exact ⟨u, u1, sb _ _ (pen_ne hp u2 fun xs e => by cases e) u2⟩
theorem Refs.but {H H' : Hp} {p c : Addr} {ms : List Int} {n : Int} (sb : SameBut p H H') (hp : PenAt H p c ms n) : ∀ {us : List Addr} {L : List Part}, Refs H us L → Refs H' us L
  | [], [], _ => trivial
  | _ :: _, _ :: _, h => ⟨sb _ _ (pen_ne hp h.1 fun xs e => by cases e) h.1, Refs.but sb hp h.2⟩
  | [], _ :: _, h => h
  | _ :: _, [], h => h
theorem NumAt.but {C : Addr} {H H' : Hp} {p c x : Addr} {ms : List Int} {n : Int} {L : List Part} (sb : SameBut p H H') (hp : PenAt H p c ms n) (h : NumAt C H x L) : NumAt C H' x L := by
  obtain ⟨dx, q, h1, us, h2, h3⟩ := h
  exact ⟨dx, q, sb _ _ (pen_ne hp h1 fun xs e => by cases e) h1, us, sb _ _ (pen_ne hp h2 fun xs e => by cases e) h2, h3.but sb hp⟩
theorem but_of {p : Addr} {H H' : Hp} (s : Same H H') : SameBut p H H' := fun b o _ e => s b o e
theorem SameBut.trans {p : Addr} {H H1 H2 : Hp} (s : SameBut p H H1) (t : SameBut p H1 H2) : SameBut p H H2 := fun b o hb e => t b o hb (s b o hb e)
theorem PenAt.same {p c : Addr} {ms : List Int} {n : Int} {H H' : Hp} (e : Same H H') (h : PenAt H p c ms n) : PenAt H' p c ms n := by
  obtain ⟨left, h1, h2, h3⟩ := h
  exact ⟨left, e _ _ h1, e _ _ h2, h3⟩
theorem free_but {p c d : Addr} {ms : List Int} {n : Int} {H H' : Hp} (sb : SameBut p H H') (hp : PenAt H' p c ms n) (h : H' d = none) : H d = none := by
  cases e : H d with
  | none => rfl
  | some o =>
    exfalso
    by_cases z : d = p
    · obtain ⟨left, h1, _⟩ := hp
      rw [z, h1] at h
      cases h
    · rw [sb d o z e] at h
      cases h
theorem pick (vs : List Int) {d : Int} (h0 : 0 ≤ d) (h1 : d < vs.length) : ∃ v, v ∈ vs ∧ atI (vs.map V.int) d = some (.int v) := by
  have hk : d.toNat < vs.length := by omega
  exact ⟨vs[d.toNat], List.getElem_mem hk, at_of (j := d.toNat) (by omega) (by rw [List.getElem?_map, List.getElem?_eq_getElem hk]; rfl)⟩
theorem ne_pen {H : Hp} {p c l : Addr} {ms : List Int} {n : Int} (h : PenAt H p c ms n) (hl : H l = none) : l ≠ p := fun z => by
  obtain ⟨_, e, _⟩ := h
  rw [← z, hl] at e
  cases e
theorem len_str_le {m : Int} (h0 : 0 ≤ m) (h : m.natAbs < 2 ^ 220) : (Str.ofString (toString m)).length ≤ sizeLine := by
  obtain ⟨k, rfl⟩ := Int.eq_ofNat_of_zero_le h0
  have e := text_ofNat k
  have e2 : (Str.ofString (toString (k : Int))).length = (Nat.toDigits 10 k).length := by
    show (Str.ofString (toString (Int.ofNat k))).length = _
    rw [e]
    show (((Nat.toDigits 10 k).map Char.toNat).toArray).size = _
    rw [List.size_toArray, List.length_map]
  rw [e2]
  exact Nat.le_trans (digits10_le (k := 100) (by decide) (Nat.lt_of_lt_of_le h (by decide))) (by decide)
section
variable {P : Program} {w : World} {K : PySem.W.Frag} {mg : Str → Option Value} {base : Heap} {f : Addr} {fd : FuncData} {C fI fQ : Addr}
/-! ### _law_whole -/
def spLW : Sp := fun vs H Q _ => ∃ (p c : Addr) (ms : List Int) (n : Int), vs = [.ref p] ∧ PenAt H p c ms n ∧ 0 ≤ n ∧ n ≤ 900000 ∧
  ∀ (k n' : Int) H', Smooth k → k < 10 ^ 60 → n ≤ n' → n' ≤ n + 34 → PenAt H' p c ms n' → SameBut p H H' → Q (.int k) H'
theorem scLW : FnScope ["_law_pen_here", "_law_found", "_law_k", "_law_p", "_law_part"] ["_law_pen_here"] (defScope sLWhole) := ⟨rfl, rfl, rfl, by decide +kernel, rfl, by decide +kernel, by decide +kernel⟩
theorem ok_lw {fD : Addr} {fdD : FuncData} (F : FnP K "_law_whole" sLWhole f fd) (GD : FnOk P w K mg base CX0 1 fD fdD ["_law_pen_here", "_law_many"] spDraw) (bD : L2.Binds K fdD ["_law_pen_here", "_law_many"] []) (kD : PySem.W.keepIn K (.ref fD) = true) (gD : mg "_law_draw" = some (.ref fD))
    (gR : mg "range" = none) (gl : mg "len" = none) (gs : mg "str" = none) : FnOk P w K mg base CX0 2 f fd ["_law_pen_here"] spLW := by
  refine F.ok scLW (fun vs H Q E h => ?_) (fun cdv A outer s H vs Q E hr h => ?_)
  · obtain ⟨p, c, ms, n, rfl, _⟩ := h
    rfl
  · obtain ⟨p, c, ms, n, rfl, pen, n0, n9, q⟩ := h
    refine ⟨_, PSs.nox (pss_cons (ps_set (i := 1) scLW.nd rfl (.inl rfl) pe_int)
      (pss_cons (ps_for PassesOwn.never rfl (pi_range1 (by rfl) gR (pa_cons (pe_call GD hr (by rfl) gD kD bD .nil pass0 (pa_cons (pv 0) (pa_cons pe_int pa_nil))) pa_nil)) (pg_name (i := 2) scLW.nd rfl (.inl rfl))
        (C8.pss_cut (ps_set (i := 3) scLW.nd rfl (.inl rfl) (pe_ix ix_list (pe_lst (pa_cons pe_int (pa_cons pe_int (pa_cons pe_int (pa_cons pe_int (pa_cons pe_int (pa_cons pe_int (pa_cons pe_int (pa_cons pe_int (pa_cons pe_int (pa_cons pe_int pa_nil))))))))))) (pe_call GD hr (by rfl) gD kD bD .nil pass0 (pa_cons (pv 0) (pa_cons pe_int pa_nil))) (fun _ _ => rfl)))
        (C8.pss_cut (ps_set (i := 4) scLW.nd rfl (.inl rfl) (pe_op op_mul (pv 3) (pe_ix ix_list (pe_lst (pa_cons pe_int (pa_cons (pv 3) (pa_cons (pv 3) pa_nil)))) (pe_call GD hr (by rfl) gD kD bD .nil pass0 (pa_cons (pv 0) (pa_cons pe_int pa_nil))) (fun _ _ => rfl))))
        (pss_one (ps_if (pt_cmpR op_le (pe_callB call_len_str (by rfl) gl PySem.boot_len (pa_cons (pe_callTy call_str_int (by rfl) gs (by decide +kernel) (pa_cons (pe_op op_mulW (pv 1) (pv 4)) pa_nil)) pa_nil)) pe_int (nomark _))
          (pss_one (ps_set (i := 1) scLW.nd rfl (.inl rfl) (pe_op op_mulW (pv 1) (pv 4)))) pss_nil)))))
      (pss_one (ps_ret (pv 1))))), ?_⟩
    refine ⟨_, rfl, p, c, ms, n, 12, rfl, pen, n0, by omega, by decide, by decide, fun e n1 H2 e0 e1 m0 m1 pen1 sb1 => ?_⟩
    refine ⟨e, rfl, by omega, by omega, ?_⟩
    refine for_range (n := e.toNat) (fun i σ H' => ∃ (v2 v3 v4 : Option V) (k n' : Int), σ = [some (.ref p), some (.int k), v2, v3, v4] ∧ n ≤ n' ∧ n' ≤ n + 1 + 2 * i ∧ PenAt H' p c ms n' ∧ SameBut p H H' ∧ Smooth k ∧ k < 10 ^ 60)
      ⟨none, none, none, 1, n1, rfl, m0, by omega, pen1, sb1, smooth_one, by decide⟩ (fun i σ H' hi hP => ?_) (fun σ H' hP => ?_)
    · obtain ⟨v2, v3, v4, k, n2, rfl, a0, a1, pen2, sb2, sk, k6⟩ := hP
      -- p
      refine ⟨fun σ H3 => ∃ (pr n3 : Int), σ = [some (.ref p), some (.int k), some (.int (0 + (i : Nat))), some (.int pr), v4] ∧ pr ∈ menuP ∧ n ≤ n3 ∧ n3 ≤ n + 1 + 2 * i + 1 ∧ PenAt H3 p c ms n3 ∧ SameBut p H H3, ?_, fun σ' H3 hM => ?_⟩
      · refine ⟨by show 10 ≤ sizeLine; decide, fun l hl => ?_⟩
        have sml := same_upd (o := .lst (menuP.map V.int)) hl
        refine ⟨_, rfl, p, c, ms, n2, 10, rfl, pen2.same sml, by omega, by omega, by decide, by decide, fun dd n3 H3 dd0 dd1 nn0 nn1 pen3 sb => ?_⟩
        obtain ⟨v, hv, ev⟩ := pick menuP dd0 dd1
        exact ⟨l, _, dd, _, rfl, rfl, SqL.of (sb l _ (ne_pen pen2 hl) upd_same), ev, v, n3, rfl, hv, by omega, by omega, pen3, sb2.trans (SameBut.trans (but_of sml) sb)⟩
      obtain ⟨pr, n3, rfl, hpr, a2, a3, pen3, sb3⟩ := hM
      obtain ⟨_, pr0, pr9, _⟩ := menu_prime pr hpr
      -- part
      refine ⟨fun σ H4 => ∃ (pa n4 : Int), σ = [some (.ref p), some (.int k), some (.int (0 + (i : Nat))), some (.int pr), some (.int pa)] ∧ (pa = pr ∨ pa = pr * pr) ∧ n ≤ n4 ∧ n4 ≤ n + 1 + 2 * i + 2 ∧ PenAt H4 p c ms n4 ∧ SameBut p H H4, ?_, fun σ' H4 hM => ?_⟩
      · refine ⟨_, rfl, _, rfl, _, rfl, by show 3 ≤ sizeLine; decide, fun l hl => ?_⟩
        have sml := same_upd (o := .lst (([1, pr, pr] : List Int).map V.int)) hl
        refine ⟨_, rfl, p, c, ms, n3, 3, rfl, pen3.same sml, by omega, by omega, by decide, by decide, fun dd n4 H4 dd0 dd1 nn0 nn1 pen4 sb => ?_⟩
        obtain ⟨v, hv, ev⟩ := pick [1, pr, pr] dd0 dd1
        have hv2 : v = 1 ∨ v = pr := by
          simp at hv
          exact hv
        refine ⟨l, _, dd, _, rfl, rfl, SqL.of (sb l _ (ne_pen pen3 hl) upd_same), ev, pr, v, rfl, rfl, .inl ⟨by omega, by omega⟩, pr * v, n4, rfl, ?_, by omega, by omega, pen4, sb3.trans (SameBut.trans (but_of sml) sb)⟩
        rcases hv2 with rfl | rfl
        · exact .inl (Int.mul_one _)
        · exact .inr rfl
      obtain ⟨pa, n4, rfl, hpa, a4, a5, pen4, sb4⟩ := hM
      have sn : Smooth (k * pa) := by
        rcases hpa with rfl | rfl
        · exact smooth_mul sk hpr
        · rw [← Int.mul_assoc]
          exact smooth_mul (smooth_mul sk hpr) hpr
      have pb : 0 < pa ∧ pa < 2 ^ 20 := by
        rcases hpa with rfl | rfl
        · exact ⟨pr0, Int.lt_of_le_of_lt pr9 (by decide)⟩
        · exact ⟨Int.mul_pos pr0 pr0, Int.lt_of_le_of_lt (Int.mul_le_mul pr9 pr9 (by omega) (by decide)) (by decide)⟩
      have kb : k.natAbs < 2 ^ 200 := abs_of_lt (Int.le_of_lt sk.1) (Int.lt_of_lt_of_le k6 (by decide))
      have pb2 : pa.natAbs < 2 ^ 20 := abs_of_lt (Int.le_of_lt pb.1) pb.2
      have cm := cmulw kb pb2 (by decide) (by decide) (by decide)
      have kp : (k * pa).natAbs < 2 ^ 220 := by
        rw [Int.natAbs_mul]
        exact Nat.lt_of_lt_of_le (Nat.mul_lt_mul'' kb pb2) (by decide)
      refine ⟨_, rfl, _, rfl, k, pa, rfl, rfl, cm, _, rfl, Nat.lt_of_lt_of_le (PySem.Flt.log2_lt_of (by decide) kp) (by decide), _, rfl, ?_, ?_⟩
      · exact len_str_le (Int.le_of_lt sn.1) kp
      refine ⟨_, 60, rfl, rfl, _, rfl, ite2 (fun z => ?_) fun _ => ?_⟩
      · exact ⟨_, rfl, _, rfl, k, pa, rfl, rfl, cm, _, _, _, k * pa, n4, rfl, a4, by omega, pen4, sb4, sn, len_str (Int.le_of_lt sn.1) (of_decide_eq_true z)⟩
      · exact ⟨_, _, _, k, n4, rfl, a4, by omega, pen4, sb4, sk, k6⟩
    · obtain ⟨v2, v3, v4, k, n2, rfl, a0, a1, pen2, sb2, sk, k6⟩ := hP
      exact ⟨_, rfl, q k n2 _ sk k6 a0 (by omega) pen2 sb2⟩
end
end TC
namespace TC
set_option exponentiation.threshold 100000
open PySem PySem.Spec PyProof.Rows L2 TCA TCX
/-! ### fractions -/
theorem frac_eq {a b : Int} (hb : b ≠ 0) : a * ((Rat.divInt a b).den : Int) = (Rat.divInt a b).num * b := by
  have d0 : ((Rat.divInt a b).den : Int) ≠ 0 := by
    have := (Rat.divInt a b).den_pos
    omega
  have e : Rat.divInt a b = Rat.divInt (Rat.divInt a b).num ((Rat.divInt a b).den : Int) := (Rat.num_divInt_den _).symm
  exact (Rat.divInt_eq_divInt_iff hb d0).mp e
theorem frac_pos {a b : Int} (ha : 0 < a) (hb : 0 < b) : 0 < (Rat.divInt a b).num := by
  have e := frac_eq (a := a) (b := b) (by omega)
  have := (Rat.divInt a b).den_pos
  have h : 0 < (Rat.divInt a b).num * b := by
    rw [← e]
    exact Int.mul_pos ha (by omega)
  exact Int.pos_of_mul_pos_left h hb
theorem frac_num {a b : Int} (hb : 0 < b) : (Rat.divInt a b).num ∣ a := by
  have e := frac_eq (a := a) (b := b) (by omega)
  have h : (Rat.divInt a b).num.natAbs ∣ a.natAbs * (Rat.divInt a b).den := by
    have : (Rat.divInt a b).num ∣ a * ((Rat.divInt a b).den : Int) := ⟨b, e⟩
    have := Int.natAbs_dvd_natAbs.mpr this
    rw [Int.natAbs_mul] at this
    exact this
  exact Int.natAbs_dvd_natAbs.mp (Nat.Coprime.dvd_of_dvd_mul_right (Rat.divInt a b).reduced h)
theorem frac_den {a b : Int} (hb : 0 < b) : ((Rat.divInt a b).den : Int) ∣ b := by
  obtain ⟨c, rfl⟩ := Int.eq_ofNat_of_zero_le (Int.le_of_lt hb)
  exact Int.natCast_dvd_natCast.mpr (den_divInt (by omega))
theorem le_dvd {a b : Int} (h : a ∣ b) (hb : 0 < b) : a ≤ b := Int.le_of_dvd hb h
theorem int_div1 (n : Int) : (n : Rat) = Rat.divInt n 1 := (Rat.num_divInt_den (n : Rat)).symm
/-! ### a root and its square -/
structure TF (R : Int) (s q : Rat) : Prop where
  r0 : 0 < R
  r1 : R < 2 ^ 410
  t0 : 0 < s.num
  t1 : s.num < 2 ^ 110
  d1 : s.den < 2 ^ 500
  sq : s * s * (R : Rat) = q
theorem tf_of {q : Rat} {o i o' i' : Int} (hn : q.num < 10 ^ 60) (hd : (q.den : Int) < 10 ^ 60) (s1 : Sq q.num o i 1) (s2 : Sq (q.den : Int) o' i' 1) : TF (i * i') (Rat.divInt o (o' * i')) q := by
  obtain ⟨l1, l2, l3⟩ := s1.le
  obtain ⟨l1', l2', l3'⟩ := s2.le
  have oi0 := Int.mul_pos s2.o0 s2.i0
  have o2 : o * o ≤ q.num := by
    have e := s1.eq
    have := Int.mul_le_mul_of_nonneg_left (show 1 ≤ i by have := s1.i0; omega) (Int.le_of_lt (Int.mul_pos s1.o0 s1.o0))
    rw [Int.mul_one] at this e
    omega
  have o30 : o < 10 ^ 30 := by
    refine Classical.byContradiction fun z => ?_
    have z2 : 10 ^ 30 ≤ o := by omega
    have := Int.mul_le_mul z2 z2 (by decide) (Int.le_of_lt s1.o0)
    have e : (10 : Int) ^ 30 * 10 ^ 30 = 10 ^ 60 := by decide
    omega
  refine ⟨Int.mul_pos s1.i0 s2.i0, ?_, frac_pos s1.o0 oi0, ?_, ?_, ?_⟩
  · have := Int.mul_lt_mul' (show i ≤ 10 ^ 60 by omega) (show i' < 10 ^ 60 by omega) (Int.le_of_lt s2.i0) (by decide)
    exact Int.lt_of_lt_of_le this (by decide)
  · exact Int.lt_of_le_of_lt (le_dvd (frac_num oi0) s1.o0) (Int.lt_of_lt_of_le o30 (by decide))
  · have := le_dvd (frac_den (a := o) oi0) oi0
    have e : ((2 ^ 500 : Nat) : Int) = 2 ^ 500 := int_pow_cast 500
    have : (10 : Int) ^ 60 ≤ 2 ^ 500 := by decide
    omega
  · have eR : ((i * i' : Int) : Rat) = Rat.divInt (i * i') 1 := int_div1 _
    have e1 := s1.eq
    have e2 := s2.eq
    have i0 := s2.i0
    have o0 := s2.o0
    rw [eR, Rat.divInt_mul_divInt, Rat.divInt_mul_divInt]
    have d0 : ((q.den : Int)) ≠ 0 := by
      have := q.den_pos
      omega
    have eq : q = Rat.divInt q.num (q.den : Int) := (Rat.num_divInt_den q).symm
    rw [eq, Rat.divInt_eq_divInt_iff (by rw [Int.mul_one]; exact Int.ne_of_gt (Int.mul_pos oi0 oi0)) d0]
    rw [e1, e2]
    grind
/-! ### the product of two numbers of one part -/
theorem prodG_two (r s : Int) (a b : Rat) (u : Int) : prodG [r] [s] (TCR.val [(r, a)]) (TCR.val [(s, b)]) u = if mulR r s = u then a * b * ((gR r s : Int) : Rat) else 0 := by
  show (if mulR r s = u then TCR.val [(r, a)] r * TCR.val [(s, b)] s * ((gR r s : Int) : Rat) else 0) + 0 + 0 = _
  rw [val_one, val_one, if_pos rfl, if_pos rfl, Rat.add_zero, Rat.add_zero]
theorem gR_self {r : Int} (h : 0 < r) : gR r r = r := by
  unfold gR
  rw [Int.gcd_self]
  omega
theorem mulR_self {r : Int} (h : 0 < r) : mulR r r = 1 := by
  unfold mulR
  rw [gR_self h, Int.fdiv_self (by omega)]
  rfl
theorem fit_one {r : Int} {q : Rat} {A R B : Nat} (hn : q.num ≠ 0) (hA : q.num.natAbs < 2 ^ A) (h0 : 0 < r) (hR : r.natAbs < 2 ^ R) : Fit q.den A R [(r, q)] :=
  ⟨TCR.canon_one fun z => hn (by rw [z]; rfl), fun x hx => by rw [List.mem_singleton.mp hx]; exact Nat.dvd_refl _, fun x hx => by rw [List.mem_singleton.mp hx]; exact hA, fun x hx => by rw [List.mem_singleton.mp hx]; exact ⟨h0, hR⟩⟩
theorem val_if {N : List Part} (c : TCR.Canon N) {u : Int} {q : Rat} (hq : q ≠ 0) (h : ∀ s, TCR.val N s = if u = s then q else 0) : N = [(u, q)] := TCR.canon_eq c (TCR.canon_one hq) fun s => by
  rw [h, val_one]
  by_cases z : u = s
  · rw [if_pos z, if_pos z.symm]
  · rw [if_neg z, if_neg fun y => z y.symm]
/-! ### what is refused -/
def Bad (y : Part) (Ls : List Part) : Prop := y.2.num ≠ 0 ∧ (Ls = [] → y.1 = 1 → y.2.num < 10 ^ 60 → (y.2.den : Int) < 10 ^ 60 → ∀ o i o' i', Sq y.2.num o i 1 → Sq (y.2.den : Int) o' i' 1 → False)
def Refd (K : PySem.W.Frag) (C : Addr) (H : Hp) (v : V) : Prop := NotNum K C H v ∨ ∃ x y Ls, v = .ref x ∧ NumAt C H x (y :: Ls) ∧ Bad y Ls
theorem Refd.same {K : PySem.W.Frag} {C : Addr} {H H' : Hp} {v : V} (h : Refd K C H v) (s : Same H H') : Refd K C H' v := by
  rcases h with h | ⟨x, y, Ls, e, h, b⟩
  · exact .inl (h.same s)
  · exact .inr ⟨x, y, Ls, e, h.same s, b⟩
theorem Refs.off {H H' : Hp} {p : Addr} {xs : List V} (sb : SameBut p H H') (hp : H p = some (.lst xs)) : ∀ {us : List Addr} {L : List Part}, Refs H us L → Refs H' us L
  | [], [], _ => trivial
  | _ :: _, _ :: _, h => ⟨sb _ _ (fun z => by have := h.1; rw [z, hp] at this; cases this) h.1, Refs.off sb hp h.2⟩
  | [], _ :: _, h => h
  | _ :: _, [], h => h
theorem NumAt.off {C : Addr} {H H' : Hp} {p x : Addr} {xs : List V} {L : List Part} (sb : SameBut p H H') (hp : H p = some (.lst xs)) (h : NumAt C H x L) : NumAt C H' x L := by
  obtain ⟨dx, q, h1, us, h2, h3⟩ := h
  exact ⟨dx, q, sb _ _ (fun z => by rw [z, hp] at h1; cases h1) h1, us, sb _ _ (fun z => by rw [z, hp] at h2; cases h2) h2, h3.off sb hp⟩
/-- plain values and numbers, that stay through a change of a list -/
def Refp (K : PySem.W.Frag) (C : Addr) (H : Hp) (v : V) : Prop := (NotNum K C H v ∧ ((∀ a, v ≠ .ref a) ∨ ∃ a xs, v = .ref a ∧ H a = some (.tup xs))) ∨ ∃ x y Ls, v = .ref x ∧ NumAt C H x (y :: Ls) ∧ Bad y Ls
theorem Refp.refd {K : PySem.W.Frag} {C : Addr} {H : Hp} {v : V} (h : Refp K C H v) : Refd K C H v := by
  rcases h with h | h
  · exact .inl h.1
  · exact .inr h
theorem Refp.same {K : PySem.W.Frag} {C : Addr} {H H' : Hp} {v : V} (h : Refp K C H v) (s : Same H H') : Refp K C H' v := by
  rcases h with ⟨h, h2⟩ | ⟨x, y, Ls, e, h, b⟩
  · refine .inl ⟨h.same s, ?_⟩
    rcases h2 with h2 | ⟨a, xs, e, h2⟩
    · exact .inl h2
    · exact .inr ⟨a, xs, e, s _ _ h2⟩
  · exact .inr ⟨x, y, Ls, e, h.same s, b⟩
theorem tyX_imm {K : PySem.W.Frag} {H H' : Hp} {v : V} {t : Value} (h : TyX K H v t) (s : ∀ a o, v = .ref a → H a = some o → H' a = some o) : TyX K H' v t := by
  cases h with
  | base b =>
    cases b with
    | non => exact .base .non
    | bl y => exact .base (.bl y)
    | int i => exact .base (.int i)
    | str y => exact .base (.str y)
    | flt y => exact .base (.flt y)
    | lst e => exact .base (.lst (s _ _ rfl e))
    | frz e => exact .base (.frz (s _ _ rfl e))
    | tup e => exact .base (.tup (s _ _ rfl e))
    | dK e => exact .base (.dK (s _ _ rfl e))
    | dT e => exact .base (.dT (s _ _ rfl e))
    | ins e cl ha hn htk hm => exact .base (.ins (s _ _ rfl e) cl ha hn htk hm)
  | byt y => exact .byt y
  | set e => exact .set (s _ _ rfl e)
  | kList e c => exact .kList e c
  | kTuple e c => exact .kTuple e c
  | kDict e c => exact .kDict e c
  | fTuple e => exact .fTuple (s _ _ rfl e)
  | fDict e => exact .fDict (s _ _ rfl e)
theorem Refp.off {K : PySem.W.Frag} {C : Addr} {H H' : Hp} {v : V} {p : Addr} {zs : List V} (h : Refp K C H v) (sb : SameBut p H H') (hp : H p = some (.lst zs)) : Refp K C H' v := by
  rcases h with ⟨⟨t, h, k⟩, h2⟩ | ⟨x, y, Ls, e, h, b⟩
  · have key : ∀ a o, v = .ref a → H a = some o → H' a = some o := fun a o e ho => by
      rcases h2 with h2 | ⟨a', xs, e', h2⟩
      · exact absurd e (h2 a)
      · have ea : a = a' := by
          rw [e] at e'
          exact V.ref.inj e'
        subst ea
        exact sb _ _ (fun z => by rw [z, hp] at h2; cases h2) ho
    refine .inl ⟨⟨t, tyX_imm h key, k⟩, ?_⟩
    rcases h2 with h2 | ⟨a', xs, e', h2⟩
    · exact .inl h2
    · exact .inr ⟨a', xs, e', key _ _ e' h2⟩
  · exact .inr ⟨x, y, Ls, e, h.off sb hp, b⟩
theorem PenAt.lst {H : Hp} {p c : Addr} {ms : List Int} {n : Int} (h : PenAt H p c ms n) : ∃ xs, H p = some (.lst xs) := by
  obtain ⟨l, h1, _⟩ := h
  exact ⟨_, h1⟩
section
variable {P : Program} {w : World} {K : PySem.W.Frag} {mg : Str → Option Value} {base : Heap} {f : Addr} {fd : FuncData} {C fI fQ CN fN : Addr} {fdN : FuncData}
theorem told_bad {H : Hp} {v : V} {Q : VK} {E : XK} (h : Refd K C H v) (q : ∀ H', Same H H' → Q (.str "number") H') : spTold K C [v] H Q E := by
  rcases h with h | ⟨x, y, Ls, e, h, b0, b⟩
  · exact ⟨v, rfl, .inl ⟨h, q⟩⟩
  · exact ⟨v, rfl, .inr (.inr ⟨x, y, Ls, e, h, b0, fun _ H' s H2 s2 => q _ (s.trans s2), fun a1 a2 a3 a4 o i o' i' s1 s2 => (b a1 a2 a3 a4 o i o' i' s1 s2).elim⟩)⟩
theorem told_good {H : Hp} {x : Addr} {q : Rat} {Q : VK} {E : XK} (h : NumAt C H x [(1, q)]) (sn : Smooth q.num) (sd : Smooth (q.den : Int)) (n6 : q.num < 10 ^ 60) (d6 : (q.den : Int) < 10 ^ 60)
    (k : ∀ z R s H', Same H H' → NumAt C H' z [(R, s)] → TF R s q → Q (.ref z) H') : spTold K C [.ref x] H Q E :=
  ⟨.ref x, rfl, .inr (.inr ⟨x, (1, q), [], rfl, h, Int.ne_of_gt sn.1, fun why => by
    exfalso
    rcases why with z | z | z | z | z | ⟨o, i, r, z, z2⟩ | ⟨o, i, r, z, z2⟩
    · exact z rfl
    · exact z rfl
    · have z' : q.num < 0 := z
      have := sn.1
      omega
    · have z' : 10 ^ 60 ≤ q.num := z
      omega
    · have z' : (10 : Int) ^ 60 ≤ (q.den : Int) := z
      omega
    · exact z2 (smooth_sq sn z)
    · exact z2 (smooth_sq sd z), fun _ _ _ _ o i o' i' s1 s2 z H' s hz => k z _ _ H' s hz (tf_of n6 d6 s1 s2)⟩)⟩
/-- a fraction of smooth numbers -/
theorem frac_smooth {a b : Int} (ha : Smooth a) (hb : Smooth b) (a6 : a < 10 ^ 60) (b6 : b < 10 ^ 60) : Smooth (Rat.divInt a b).num ∧ Smooth ((Rat.divInt a b).den : Int) ∧ (Rat.divInt a b).num < 10 ^ 60 ∧ ((Rat.divInt a b).den : Int) < 10 ^ 60 := by
  have d0 : 0 < ((Rat.divInt a b).den : Int) := by
    have := (Rat.divInt a b).den_pos
    omega
  have l1 := le_dvd (frac_num (a := a) hb.1) ha.1
  have l2 := le_dvd (frac_den (a := a) hb.1) hb.1
  exact ⟨smooth_dvd ha (frac_pos ha.1 hb.1) (frac_num hb.1), smooth_dvd hb d0 (frac_den hb.1), by omega, by omega⟩
theorem smooth_pow {n p : Int} (h : Smooth n) (hp : p ∈ menuP) : ∀ k : Nat, Smooth (n * p ^ k)
  | 0 => by
    rw [Int.pow_zero, Int.mul_one]
    exact h
  | k + 1 => by
    rw [Int.pow_succ, ← Int.mul_assoc]
    exact smooth_mul (smooth_pow h hp k) hp
theorem smooth_25 (a b : Nat) : Smooth (1 * 2 ^ a * 5 ^ b) := smooth_pow (smooth_pow smooth_one (by decide) a) (by decide) b
theorem ex_one_root {a b : Int} (ha : a ≠ 0) : exL a b 1 = [(1, Rat.divInt a b)] := by
  rw [ex_menu (by decide)]
  exact if_neg ha
/-! ### == of a number and a text -/
def spEqS (C : Addr) : Sp := fun vs H Q _ => ∃ (x : Addr) (L : List Part) (z : Str), vs = [.ref x, .str z] ∧ NumAt C H x L ∧ Q (.bl false) H
theorem ok_eqS (F : FnM K "__eq__" "Exact.__eq__" sEq f fd) (T : TxtN K mg C fI fQ) (gI : mg "isinstance" = none) (kS : PySem.W.kitOne K (.type "str") (.ref C) = some false) : FnOk P w K mg base CX0 1 f fd ["self", "other"] (spEqS C) := by
  refine F.ok scEq (fun vs H Q E h => ?_) (fun cdv A outer s H vs Q E hr h => ?_)
  · obtain ⟨x, L, z, rfl, _⟩ := h
    rfl
  · obtain ⟨x, L, z, rfl, hx, q⟩ := h
    refine ⟨_, PSs.nox (pss_one (ps_ret (pe_and (pe_callB call_isi (by rfl) gI (by decide +kernel) (pa_cons (pv 1) (pa_cons (pe_glob (v := .ref C) (by rfl) T.mgC rfl) pa_nil))) (pe_one (pe_cmpR (op_eqD hr.units) (pe_fld (pv 0) rfl) (pe_fld (pv 1) rfl) (nomark _)))))), ?_⟩
    exact ⟨_, rfl, _, _, _, _, false, rfl, .own C, .base (.str z), kS, false, rfl, iteF q⟩
theorem notFirst_self : PySem.W.notFirst K C (.ref C) = true := by
  unfold PySem.W.notFirst
  rw [show ((Value.ref C == Value.ref C) = true) from by simp]
  rfl
theorem notFirst_str (h : PySem.W.subIn K (.type "str") (.ref C) = some false) : PySem.W.notFirst K C (.type "str") = true := by
  unfold PySem.W.notFirst
  rw [h]
  simp
theorem bEr (F : FnE K f fd) : ∃ mv : List Value, KBn K fd psE 1 ["root"] (fun us ws => us ++ (mv ++ ws)) (fun vs zs => vs ++ ([.int 1] ++ zs)) :=
  kbinds0 F (ps := psE) 1 ["root"] [("bottom", .int 1)] (fun us mv ws => us ++ (mv ++ ws)) (by intro z; cases z) (fun q hq => by
    rw [List.mem_singleton.mp hq]
    exact List.mem_cons_self ..) (fun a b c => a.append (b.append c)) fun D doc pm an cdv ct us mv ws h1 h2 h3 => match us, mv, ws, h1, h2, h3 with
    | [_], [_], [_], _, _, _ => ⟨_, _, _, _, _, _, rfl, rfl, rfl⟩
theorem bEb (F : FnE K f fd) : ∃ mv : List Value, KBn K fd psE 1 ["bottom"] (fun us ws => us ++ (ws ++ mv)) (fun vs zs => vs ++ (zs ++ [.int 1])) :=
  kbinds0 F (ps := psE) 1 ["bottom"] [("root", .int 1)] (fun us mv ws => us ++ (ws ++ mv)) (by intro z; cases z) (fun q hq => by
    rw [List.mem_singleton.mp hq]
    exact List.mem_cons_of_mem _ (List.mem_cons_self ..)) (fun a b c => a.append (c.append b)) fun D doc pm an cdv ct us mv ws h1 h2 h3 => match us, mv, ws, h1, h2, h3 with
    | [_], [_], [_], _, _, _ => ⟨_, _, _, _, _, _, rfl, rfl, rfl⟩
end
end TC
namespace TC
set_option exponentiation.threshold 100000
open PySem PySem.Spec PyProof.Rows L2 TCA TCX
/-- a fraction that root_of takes -/
structure QF (q : Rat) : Prop where
  sn : Smooth q.num
  sd : Smooth (q.den : Int)
  n6 : q.num < 10 ^ 60
  d6 : (q.den : Int) < 10 ^ 60
theorem QF.ne {q : Rat} (h : QF q) : q ≠ 0 := fun z => by
  have := h.sn.1
  rw [z] at this
  exact absurd this (by decide)
theorem QF.num {q : Rat} (h : QF q) : q.num.natAbs < 2 ^ 200 := abs_of_lt (Int.le_of_lt h.sn.1) (Int.lt_of_lt_of_le h.n6 (by decide))
theorem QF.den {q : Rat} (h : QF q) : q.den < 2 ^ 200 := by
  have := abs_of_lt (A := 200) (Int.le_of_lt h.sd.1) (Int.lt_of_lt_of_le h.d6 (by decide))
  exact this
theorem qf_of {a b : Int} (ha : Smooth a) (hb : Smooth b) (a6 : a < 10 ^ 60) (b6 : b < 10 ^ 60) : QF (Rat.divInt a b) := by
  obtain ⟨h1, h2, h3, h4⟩ := frac_smooth ha hb a6 b6
  exact ⟨h1, h2, h3, h4⟩
theorem mulR_1 (r : Int) : mulR 1 r = r := by
  unfold mulR gR
  rw [Int.gcd_comm, Int.gcd_one_right]
  show (1 : Int).fdiv 1 * r.fdiv 1 = r
  rw [Int.fdiv_one, Int.fdiv_one, Int.one_mul]
theorem gR_1 (r : Int) : gR 1 r = 1 := by
  unfold gR
  rw [Int.gcd_comm, Int.gcd_one_right]
  rfl
theorem sq_pos {n o i : Int} (h : Sq n o i 1) : 0 < n := by
  rw [h.eq]
  exact Int.mul_pos (Int.mul_pos (Int.mul_pos h.o0 h.o0) h.i0) (by decide)
theorem divInt_num_ne {t b : Int} (hb : b ≠ 0) (ht : t ≠ 0) : (Rat.divInt t b).num ≠ 0 := fun z => divInt_ne hb ht (Rat.num_eq_zero.mp z)
theorem rat_num_ne {q : Rat} (h : q ≠ 0) : q.num ≠ 0 := fun z => h (Rat.num_eq_zero.mp z)
/-- not of root 1 -/
theorem bad_root {r : Int} {q : Rat} (hq : q ≠ 0) (hr : r ≠ 1) : Bad (r, q) [] := ⟨rat_num_ne hq, fun _ z => absurd z hr⟩
theorem bad_len {y x : Part} {Ls : List Part} (hq : y.2 ≠ 0) : Bad y (x :: Ls) := ⟨rat_num_ne hq, fun z => by cases z⟩
theorem bad_neg {q : Rat} (h : q.num < 0) : Bad (1, q) [] := ⟨Int.ne_of_lt h, fun _ _ _ _ o i o' i' s _ => by
  have := sq_pos s
  have h2 : q.num < 0 := h
  have h3 : 0 < q.num := this
  omega⟩
theorem bad_num {q : Rat} (h1 : q.num ≠ 1) (h0 : q.num ≠ 0) (h : ∀ p ∈ TCM.primes, q.num % p ≠ 0) : Bad (1, q) [] := ⟨h0, fun _ _ _ _ o i o' i' s _ => rough_sq h1 h s⟩
theorem bad_den {q : Rat} (h1 : (q.den : Int) ≠ 1) (h0 : q.num ≠ 0) (h : ∀ p ∈ TCM.primes, (q.den : Int) % p ≠ 0) : Bad (1, q) [] := ⟨h0, fun _ _ _ _ o i o' i' _ s => rough_sq h1 h s⟩
theorem bad_long {q : Rat} (h0 : q.num ≠ 0) (h : 10 ^ 60 ≤ q.num) : Bad (1, q) [] := ⟨h0, fun _ _ z => by
  have z' : q.num < 10 ^ 60 := z
  omega⟩
theorem bad_long2 {q : Rat} (h0 : q.num ≠ 0) (h : (10 ^ 60 : Int) ≤ (q.den : Int)) : Bad (1, q) [] := ⟨h0, fun _ _ _ z => by
  have z' : (q.den : Int) < 10 ^ 60 := z
  omega⟩
theorem divInt1_num (a : Int) : (Rat.divInt a 1).num = a := by
  rw [← int_div1]
  rfl
theorem menu_roots : RootOk 1 ∧ RootOk 2 ∧ RootOk 5 ∧ RootOk 6 := by
  unfold RootOk
  decide +kernel
theorem bad1009 : ∀ v ∈ ([1, 1009] : List Int), Bad (1, Rat.divInt (1009 * v) 1) [] := fun v hv => by
  have key : ∀ v ∈ ([1, 1009] : List Int), 1009 * v ≠ 1 ∧ 1009 * v ≠ 0 ∧ ∀ p ∈ TCM.primes, (1009 * v) % p ≠ 0 := by decide +kernel
  obtain ⟨k1, k2, k3⟩ := key v hv
  exact bad_num (by rw [divInt1_num]; exact k1) (by rw [divInt1_num]; exact k2) (by rw [divInt1_num]; exact k3)
theorem bad1013 : Bad (1, Rat.divInt 4 (1013 * 1013)) [] := by
  have e : (Rat.divInt 4 (1013 * 1013)).den = 1013 * 1013 := by decide +kernel
  refine bad_den (by rw [e]; decide) (divInt_num_ne (by decide) (by decide)) ?_
  rw [e]
  decide +kernel
theorem bad60 : Bad (1, Rat.divInt (10 ^ 60) 1) [] := bad_long (by rw [divInt1_num]; decide) (by rw [divInt1_num]; decide)
theorem bad760 : Bad (1, Rat.divInt 1 (7 * 10 ^ 60)) [] := by
  have e : (Rat.divInt 1 (7 * 10 ^ 60)).den = 7 * 10 ^ 60 := by decide +kernel
  exact bad_long2 (divInt_num_ne (by decide) (by decide)) (by rw [e]; decide)
theorem mul_ne {a b : Rat} (ha : a ≠ 0) (hb : b ≠ 0) : a * b ≠ 0 := fun z => by
  rcases Rat.mul_eq_zero.mp z with z | z
  · exact ha z
  · exact hb z
theorem canon_two {a b : Rat} (ha : a ≠ 0) (hb : b ≠ 0) : TCR.Canon [(1, a), (2, b)] :=
  ⟨List.Pairwise.cons (fun x hx => by rw [List.mem_singleton.mp hx]; show (1 : Int) < 2; decide) (List.pairwise_singleton ..), fun x hx => by
    rcases List.mem_cons.mp hx with rfl | hx
    · exact ha
    · rw [List.mem_singleton.mp hx]
      exact hb⟩
section
variable {P : Program} {w : World} {K : PySem.W.Frag} {mg : Str → Option Value} {base : Heap} {f : Addr} {fd : FuncData} {C fI fQ CN fN : Addr} {fdN : FuncData}
theorem ex_ok {t b r : Int} {H : Hp} {Q : VK} {E : XK} (hb : 0 < b) (hB : b < 2 ^ 300) (hr : RootOk r) (k : ∀ x H', Same H H' → H x = none → NumAt C H' x (exL t b r) → Q (.ref x) H') : spExact C [.int t, .int b, .int r] H Q E :=
  ⟨t, b, r, 300, rfl, by omega, abs_of_lt (Int.le_of_lt hb) hB, by decide, by decide, hr, k⟩
theorem times_sq {H : Hp} {z : Addr} {R : Int} {s q : Rat} {Q : VK} {E : XK} (hz : NumAt C H z [(R, s)]) (tf : TF R s q) (hq : q ≠ 0) (k : ∀ y H', Same H H' → NumAt C H' y [(1, q)] → Q (.ref y) H') : spTimes C [.ref z, .ref z] H Q E := by
  have fit : Fit s.den 110 410 [(R, s)] := fit_one (B := 0) (Int.ne_of_gt tf.t0) (abs_of_lt (Int.le_of_lt tf.t0) tf.t1) tf.r0 (abs_of_lt (Int.le_of_lt tf.r0) tf.r1)
  refine ⟨z, z, [(R, s)], [(R, s)], s.den, s.den, 110, 110, 500, 500, 410, rfl, hz, hz, fit, fit, s.den_pos, s.den_pos, tf.d1, tf.d1, by decide, by decide, by decide, by decide, by decide, by decide, by decide, by decide, by show 1 ≤ 60; decide, by show 1 ≤ 60; decide, by show 1 * 1 ≤ 900; decide, fun y N H' sm hy hN fN vN lN => ?_⟩
  have e : N = [(1, q)] := val_if fN.can hq fun u => by
    rw [vN]
    show prodG [R] [R] _ _ u = _
    rw [prodG_two, mulR_self tf.r0, gR_self tf.r0, tf.sq]
  rw [e] at hN
  exact k y H' sm hN
theorem times_one {H : Hp} {x z : Addr} {r : Int} {b q : Rat} {Q : VK} {E : XK} (hx : NumAt C H x [(1, q)]) (hz : NumAt C H z [(r, b)]) (hq : QF q) (hb : b ≠ 0) (b1 : b.num.natAbs < 2 ^ 2) (b2 : b.den < 2 ^ 2) (r0 : 0 < r) (r1 : r < 100) (k : ∀ y H', Same H H' → NumAt C H' y [(r, q * b)] → Q (.ref y) H') : spTimes C [.ref x, .ref z] H Q E := by
  have f1 : Fit q.den 200 410 [(1, q)] := fit_one (B := 0) (Int.ne_of_gt hq.sn.1) hq.num (by decide) (by decide)
  have f2 : Fit b.den 2 410 [(r, b)] := fit_one (B := 0) (rat_num_ne hb) b1 r0 (Nat.lt_of_lt_of_le (show r.natAbs < 100 by omega) (by decide))
  refine ⟨x, z, [(1, q)], [(r, b)], q.den, b.den, 200, 2, 200, 2, 410, rfl, hx, hz, f1, f2, q.den_pos, b.den_pos, hq.den, b2, by decide, by decide, by decide, by decide, by decide, by decide, by decide, by decide, by show 1 ≤ 60; decide, by show 1 ≤ 60; decide, by show 1 * 1 ≤ 900; decide, fun y N H' sm hy hN fN vN lN => ?_⟩
  have e : N = [(r, q * b)] := val_if fN.can (mul_ne hq.ne hb) fun u => by
    rw [vN]
    show prodG [1] [r] _ _ u = _
    rw [prodG_two, mulR_1, gR_1, show ((1 : Int) : Rat) = 1 from rfl, Rat.mul_one]
  rw [e] at hN
  exact k y H' sm hN
theorem plus_two {H : Hp} {x z : Addr} {b q : Rat} {Q : VK} {E : XK} (hx : NumAt C H x [(1, q)]) (hz : NumAt C H z [(2, b)]) (hq : QF q) (hb : b ≠ 0) (b1 : TCR.Sz 2 b) (k : ∀ y H', Same H H' → NumAt C H' y [(1, q), (2, b)] → Q (.ref y) H') : spPlus C [.ref x, .ref z] H Q E := by
  have g1 : Good 200 [(1, q)] := ⟨TCR.canon_one hq.ne, fun x hx => by rw [List.mem_singleton.mp hx]; exact ⟨hq.num, hq.den⟩⟩
  have g2 : Good 2 [(2, b)] := ⟨TCR.canon_one hb, fun x hx => by rw [List.mem_singleton.mp hx]; exact b1⟩
  refine ⟨x, z, [(1, q)], [(2, b)], 200, 2, rfl, hx, hz, g1, g2, by decide, by decide, by decide, by show 1 + 1 ≤ 60; decide, fun y N H' sm hy hN gN vN lN => ?_⟩
  have e : N = [(1, q), (2, b)] := TCR.canon_eq gN.1 (canon_two hq.ne hb) fun s => by
    rw [vN, val_one, val_one]
    show _ = (if (1 : Int) = s then q else if (2 : Int) = s then b else 0)
    by_cases h1 : s = 1
    · subst h1
      rw [if_pos rfl, if_pos rfl, if_neg (by decide), Rat.add_zero]
    · have h1' : ¬ (1 : Int) = s := fun z => h1 z.symm
      rw [if_neg h1, if_neg h1', Rat.zero_add]
      by_cases h2 : s = 2
      · rw [if_pos h2, if_pos h2.symm]
      · have h2' : ¬ (2 : Int) = s := fun z => h2 z.symm
        rw [if_neg h2, if_neg h2']
  rw [e] at hN
  exact k y H' sm hN
end
/-- a list of things that are refused -/
structure BadsAt (K : PySem.W.Frag) (C : Addr) (H : Hp) (l : Addr) (n : Nat) : Prop where
  ex : ∃ xs, H l = some (.lst xs) ∧ xs.length = n ∧ ∀ v ∈ xs, Refp K C H v
theorem upd_but {l : Addr} {H : Hp} {o : HO} : SameBut l H (upd H l o) := fun b x hb e => by
  rw [upd_ne hb]
  exact e
theorem pen_off {H : Hp} {p c l : Addr} {ms : List Int} {n : Int} {o : HO} (h : PenAt H p c ms n) (h1 : l ≠ p) (h2 : l ≠ c) : PenAt (upd H l o) p c ms n := by
  obtain ⟨lf, a1, a2, a3⟩ := h
  exact ⟨lf, upd_but _ _ (Ne.symm h1) a1, upd_but _ _ (Ne.symm h2) a2, a3⟩
theorem PenAt.nec {H : Hp} {p c q : Addr} {ms : List Int} {n : Int} (h : PenAt H p c ms n) (hq : H q = none) : q ≠ c := by
  obtain ⟨l, h1, h2, h3⟩ := h
  exact fun e => by rw [e, h2] at hq; cases hq
theorem pickV {vs : List V} {d : Int} (h0 : 0 ≤ d) (h1 : d < vs.length) : ∃ v, v ∈ vs ∧ atI vs d = some v := by
  have hk : d.toNat < vs.length := by omega
  exact ⟨vs[d.toNat], List.getElem_mem hk, at_of (j := d.toNat) (by omega) (List.getElem?_eq_getElem hk)⟩
theorem bads3 : ∀ v ∈ ([10 ^ 58 * 16, 25 * 10 ^ 58, 10 ^ 59] : List Int), Smooth v ∧ v < 10 ^ 60 := fun v hv => by
  simp only [List.mem_cons, List.not_mem_nil, or_false] at hv
  rcases hv with rfl | rfl | rfl
  · have := smooth_25 62 58
    exact ⟨by have e : (1 : Int) * 2 ^ 62 * 5 ^ 58 = 10 ^ 58 * 16 := by decide
              rw [← e]; exact this, by decide⟩
  · have := smooth_25 58 60
    exact ⟨by have e : (1 : Int) * 2 ^ 58 * 5 ^ 60 = 25 * 10 ^ 58 := by decide
              rw [← e]; exact this, by decide⟩
  · have := smooth_25 59 59
    exact ⟨by have e : (1 : Int) * 2 ^ 59 * 5 ^ 59 = 10 ^ 59 := by decide
              rw [← e]; exact this, by decide⟩
end TC
namespace TC
set_option exponentiation.threshold 100000
open PySem PySem.Spec PyProof.Rows L2 TCA TCX
abbrev nLaw : List Str := ["_law_script", "_law_pen_here", "_law_k", "_law_number", "_law_told_here", "_law_bad", "_law_some_here", "_law_bottom_here"]
theorem scLaw : FnScope nLaw ["_law_script"] (defScope sLaw) := ⟨rfl, rfl, rfl, by decide +kernel, rfl, by decide +kernel, by decide +kernel⟩
def spLaw (K : PySem.W.Frag) : Sp := fun vs H Q _ => ∃ (a : Addr) (ns : List Int), vs = [.ref a] ∧ SqL K H a (ns.map V.int) ∧ ns.length ≤ 63 ∧ ∀ H', Q (.bl true) H'
/-- a promise kept as it is said -/
structure Box (sp : Sp) (vs : List V) (H : Hp) (Q : VK) (E : XK) : Prop where
  out : sp vs H Q E
theorem boxed {P : Program} {w : World} {K : PySem.W.Frag} {mg : Str → Option Value} {base : Heap} {CX : CXT} {k : Nat} {f : Addr} {fd : FuncData} {ps : List Str} {sp : Sp} (F : FnOk P w K mg base CX k f fd ps sp) : FnOk P w K mg base CX k f fd ps (Box sp) :=
  ⟨fun vs H Q E h => F.len vs H Q E h.out, fun A outer s H args us vs Q E hr he hb hv hs => F.run A outer s H args us vs Q E hr he hb hv hs.out⟩
structure LTxt (P : Program) (w : World) (K : PySem.W.Frag) (mg : Str → Option Value) (base : Heap) (C fI fQ fP fD fE fA fM fG fT fW : Addr) (fdQ fdP fdD fdE fdA fdM fdG fdT fdW : FuncData) : Prop where
  T : TxtN K mg C fI fQ
  GQ : FnOk P w K mg base CX0 1 fQ fdQ ["self", "other"] (spEqN C)
  GS : FnOk P w K mg base CX0 1 fQ fdQ ["self", "other"] (spEqS C)
  bQ : L2.Binds K fdQ ["self", "other"] []
  kS : PySem.W.kitOne K (.ref C) (.type "str") = some false
  sS : PySem.W.subIn K (.type "str") (.ref C) = some false
  ko : ∀ t ∈ others, PySem.W.kitOne K (.type t) (.ref C) = some false
  GP : FnOk P w K mg base CX0 1 fP fdP ["_law_script"] (spPen K)
  bP : L2.Binds K fdP ["_law_script"] []
  kP : PySem.W.keepIn K (.ref fP) = true
  gP : mg "_law_pen" = some (.ref fP)
  GD : FnOk P w K mg base CX0 1 fD fdD ["_law_pen_here", "_law_many"] spDraw
  bD : L2.Binds K fdD ["_law_pen_here", "_law_many"] []
  kD : PySem.W.keepIn K (.ref fD) = true
  gD : mg "_law_draw" = some (.ref fD)
  FE : FnE K fE fdE
  GE : FnOk P w K mg base CX0 4 fE fdE psE (Box (spExact C))
  gE : mg "exact" = some (.ref fE)
  GA : FnOk P w K mg base CX0 4 fA fdA ["one", "other"] (Box (spPlus C))
  bA : L2.Binds K fdA ["one", "other"] []
  kA : PySem.W.keepIn K (.ref fA) = true
  gA : mg "plus" = some (.ref fA)
  GM : FnOk P w K mg base CX0 4 fM fdM ["one", "other"] (Box (spTimes C))
  bM : L2.Binds K fdM ["one", "other"] []
  kM : PySem.W.keepIn K (.ref fM) = true
  gM : mg "times" = some (.ref fM)
  GG : FnOk P w K mg base CX0 3 fG fdG ["one"] (spSign1 C)
  bG : L2.Binds K fdG ["one"] []
  kG : PySem.W.keepIn K (.ref fG) = true
  gG : mg "sign" = some (.ref fG)
  GT : FnOk P w K mg base CX0 5 fT fdT ["_law_number"] (Box (spTold K C))
  bT : L2.Binds K fdT ["_law_number"] []
  kT : PySem.W.keepIn K (.ref fT) = true
  gT : mg "_law_told" = some (.ref fT)
  GW : FnOk P w K mg base CX0 2 fW fdW ["_law_pen_here"] spLW
  bW : L2.Binds K fdW ["_law_pen_here"] []
  kW : PySem.W.keepIn K (.ref fW) = true
  gW : mg "_law_whole" = some (.ref fW)
  gr : mg "range" = none
  gI : mg "isinstance" = none
  gs : mg "str" = none
  gl : mg "len" = none
section
variable {P : Program} {w : World} {K : PySem.W.Frag} {mg : Str → Option Value} {base : Heap} {f : Addr} {fd : FuncData} {C fI fQ fP fD fE fA fM fG fT fW : Addr} {fdQ fdP fdD fdE fdA fdM fdG fdT fdW : FuncData}
theorem ex_okB {t b r : Int} {H : Hp} {Q : VK} {E : XK} (hb : 0 < b) (hB : b < 2 ^ 300) (hr : RootOk r) (k : ∀ x H', Same H H' → H x = none → NumAt C H' x (exL t b r) → Q (.ref x) H') : Box (spExact C) [.int t, .int b, .int r] H Q E := ⟨ex_ok hb hB hr k⟩
theorem times_sqB {H : Hp} {z : Addr} {R : Int} {s q : Rat} {Q : VK} {E : XK} (hz : NumAt C H z [(R, s)]) (tf : TF R s q) (hq : q ≠ 0) (k : ∀ y H', Same H H' → NumAt C H' y [(1, q)] → Q (.ref y) H') : Box (spTimes C) [.ref z, .ref z] H Q E := ⟨times_sq hz tf hq k⟩
theorem times_oneB {H : Hp} {x z : Addr} {r : Int} {b q : Rat} {Q : VK} {E : XK} (hx : NumAt C H x [(1, q)]) (hz : NumAt C H z [(r, b)]) (hq : QF q) (hb : b ≠ 0) (b1 : b.num.natAbs < 2 ^ 2) (b2 : b.den < 2 ^ 2) (r0 : 0 < r) (r1 : r < 100) (k : ∀ y H', Same H H' → NumAt C H' y [(r, q * b)] → Q (.ref y) H') : Box (spTimes C) [.ref x, .ref z] H Q E := ⟨times_one hx hz hq hb b1 b2 r0 r1 k⟩
theorem plus_twoB {H : Hp} {x z : Addr} {b q : Rat} {Q : VK} {E : XK} (hx : NumAt C H x [(1, q)]) (hz : NumAt C H z [(2, b)]) (hq : QF q) (hb : b ≠ 0) (b1 : TCR.Sz 2 b) (k : ∀ y H', Same H H' → NumAt C H' y [(1, q), (2, b)] → Q (.ref y) H') : Box (spPlus C) [.ref x, .ref z] H Q E := ⟨plus_two hx hz hq hb b1 k⟩
theorem told_badB {H : Hp} {v : V} {Q : VK} {E : XK} (h : Refd K C H v) (q : ∀ H', Same H H' → Q (.str "number") H') : Box (spTold K C) [v] H Q E := ⟨told_bad h q⟩
theorem told_goodB {H : Hp} {x : Addr} {q : Rat} {Q : VK} {E : XK} (h : NumAt C H x [(1, q)]) (sn : Smooth q.num) (sd : Smooth (q.den : Int)) (n6 : q.num < 10 ^ 60) (d6 : (q.den : Int) < 10 ^ 60)
    (k : ∀ z R s H', Same H H' → NumAt C H' z [(R, s)] → TF R s q → Q (.ref z) H') : Box (spTold K C) [.ref x] H Q E := ⟨told_good h sn sd n6 d6 k⟩
theorem told_zeroB {H : Hp} {x : Addr} {Q : VK} {E : XK} (h : NumAt C H x []) (q : ∀ H', Same H H' → Q (.ref x) H') : Box (spTold K C) [.ref x] H Q E := ⟨⟨_, rfl, .inr (.inl ⟨x, rfl, h, q⟩)⟩⟩
set_option maxHeartbeats 0 in
theorem ok_law (F : FnP K "law" sLaw f fd) (T : LTxt P w K mg base C fI fQ fP fD fE fA fM fG fT fW fdQ fdP fdD fdE fdA fdM fdG fdT fdW) : FnOk P w K mg base CX0 6 f fd ["_law_script"] (spLaw K) := by
  obtain ⟨dsE, vE, bE⟩ := bE0 T.FE
  obtain ⟨mvb, kbb⟩ := bEb T.FE
  obtain ⟨mvr, kbr⟩ := bEr T.FE
  refine F.ok scLaw (fun vs H Q E h => ?_) (fun cdv A outer s H vs Q E hr h => ?_)
  · obtain ⟨a, ns, rfl, _⟩ := h
    rfl
  · obtain ⟨a, ns, rfl, hS, hn, q⟩ := h
    have hr1 := hr.mono (j := 1) (by decide)
    have hr2 := hr.mono (j := 2) (by decide)
    have hr3 := hr.mono (j := 3) (by decide)
    have hr4 := hr.mono (j := 4) (by decide)
    refine ⟨_, PSs.nox (pss_cons (ps_set (i := 1) scLaw.nd rfl (.inl rfl) (pe_call T.GP hr1 (by rfl) T.gP T.kP T.bP .nil pass0 (pa_cons (pv 0) pa_nil)))
      (C8.pss_cut (ps_for PassesOwn.never rfl (pi_range1 (by rfl) T.gr (pa_cons (pe_op op_add pe_int (pe_call T.GD hr1 (by rfl) T.gD T.kD T.bD .nil pass0 (pa_cons (pv 1) (pa_cons pe_int pa_nil)))) pa_nil)) (pg_name (i := 2) scLaw.nd rfl (.inl rfl))
        (C8.pss_cut (ps_set (i := 3) scLaw.nd rfl (.inl rfl) (pe_callN T.GE hr4 (by rfl) T.gE T.FE.kp kbb pass0 (pa_cons (pe_call T.GW hr2 (by rfl) T.gW T.kW T.bW .nil pass0 (pa_cons (pv 1) pa_nil)) pa_nil) (pk_cons (pe_call T.GW hr2 (by rfl) T.gW T.kW T.bW .nil pass0 (pa_cons (pv 1) pa_nil)) pk_nil)))
        (C8.pss_cut (ps_set (i := 4) scLaw.nd rfl (.inl rfl) (pe_call T.GT hr (by rfl) T.gT T.kT T.bT .nil pass0 (pa_cons (pv 3) pa_nil)))
        (C8.pss_cut (ps_if (PW.pt (pw_or (pt_val (pe_callB call_isi (by rfl) T.gI (by decide +kernel) (pa_cons (pv 4) (pa_cons (pe_bltn (v := .ty "str") (by rfl) T.gs (by decide +kernel) rfl) pa_nil))))
            (pw_or (pt_cmpR (op_neO T.GQ T.T.mq.at_ T.T.mq.fn T.bQ pass0 T.T.ne T.T.cm hr2) (pe_call T.GM hr4 (by rfl) T.gM T.kM T.bM .nil pass0 (pa_cons (pv 4) (pa_cons (pv 4) pa_nil))) (pv 3) (nomark _))
            (pw_or (pt_cmpR op_ne (pe_call T.GG hr3 (by rfl) T.gG T.kG T.bG .nil pass0 (pa_cons (pv 4) pa_nil)) pe_int (nomark _))
            (pw_or1 (pt_cmpR op_ne (pe_callB call_len_seq (by rfl) T.gl PySem.boot_len (pa_cons (pe_fld (pv 4) rfl) pa_nil)) pe_int (nomark _)))))))
            pss_never pss_nil)
        (C8.pss_cut (ps_set (i := 5) scLaw.nd rfl (.inl rfl) (pe_lst (pa_cons (pe_call T.GM hr4 (by rfl) T.gM T.kM T.bM .nil pass0 (pa_cons (pv 3) (pa_cons (pe_call T.GE hr4 (by rfl) T.gE T.FE.kp bE vE pass0 (pa_cons (pe_un un_neg pe_int) pa_nil)) pa_nil)))
            (pa_cons (pe_call T.GE hr4 (by rfl) T.gE T.FE.kp bE vE pass0 (pa_cons (pe_op op_mul pe_int (pe_ix ix_list (pe_lst (pa_cons pe_int (pa_cons pe_int pa_nil))) (pe_op op_mod (pv 2) pe_int) (fun _ _ => rfl))) pa_nil))
            (pa_cons (pe_callN T.GE hr4 (by rfl) T.gE T.FE.kp kbb pass0 (pa_cons pe_int pa_nil) (pk_cons (pe_op op_mul pe_int pe_int) pk_nil))
            (pa_cons (pe_call T.GE hr4 (by rfl) T.gE T.FE.kp bE vE pass0 (pa_cons (pe_op op_pow pe_int pe_int) pa_nil)) pa_nil))))))
        (C8.pss_cut (ps_expr (pe_bm PySem.F.plainAttrs_list PySem.F.slot_list_append PySem.F.type_list_append mt_append (pv 5) (pa_cons (pe_callN T.GE hr4 (by rfl) T.gE T.FE.kp kbb pass0 (pa_cons pe_int pa_nil) (pk_cons (pe_op op_mul pe_int (pe_op op_pow pe_int pe_int)) pk_nil)) pa_nil)))
        (C8.pss_cut (ps_set (i := 5) scLaw.nd rfl (.inl rfl) (pe_op op_cat (pv 5) (pe_lst
            (pa_cons (pe_call T.GA hr4 (by rfl) T.gA T.kA T.bA .nil pass0 (pa_cons (pv 3) (pa_cons (pe_callN T.GE hr4 (by rfl) T.gE T.FE.kp kbr pass0 (pa_cons pe_int pa_nil) (pk_cons pe_int pk_nil)) pa_nil)))
            (pa_cons (pe_call T.GM hr4 (by rfl) T.gM T.kM T.bM .nil pass0 (pa_cons (pv 3) (pa_cons (pe_callN T.GE hr4 (by rfl) T.gE T.FE.kp kbr pass0 (pa_cons pe_int pa_nil) (pk_cons pe_int pk_nil)) pa_nil)))
            (pa_cons (pe_callN T.GE hr4 (by rfl) T.gE T.FE.kp kbr pass0 (pa_cons pe_int pa_nil) (pk_cons pe_int pk_nil)) pa_nil))))))
        (C8.pss_cut (ps_set (i := 5) scLaw.nd rfl (.inl rfl) (pe_op op_cat (pv 5) (pe_lst (pa_cons pe_int (pa_cons pe_non (pa_cons pe_str (pa_cons (pe_tup (pa_cons pe_int (pa_cons pe_int (pa_cons pe_int pa_nil)))) pa_nil)))))))
        (C8.pss_cut (ps_set (i := 6) scLaw.nd rfl (.inl rfl) (pe_ix ix_list (pv 5) (pe_call T.GD hr1 (by rfl) T.gD T.kD T.bD .nil pass0 (pa_cons (pv 1) (pa_cons pe_int pa_nil))) (fun _ _ => rfl)))
        (pss_one (ps_if (PW.pt (pw_or (pt_cmpR op_ne (pe_call T.GT hr (by rfl) T.gT T.kT T.bT .nil pass0 (pa_cons (pv 6) pa_nil)) pe_str (nomark _))
            (pw_or1 (pt_cmpR (op_eqO T.GS T.T.mq.at_ T.T.mq.fn T.bQ pass0 hr1) (pe_call T.GT hr (by rfl) T.gT T.kT T.bT .nil pass0 (pa_cons (pe_call T.GE hr4 (by rfl) T.gE T.FE.kp bE vE pass0 (pa_cons (pe_op op_pow pe_int pe_int) pa_nil)) pa_nil)) pe_str (nomark _)))))
            pss_never pss_nil)))))))))))
      (C8.pss_cut (ps_for PassesOwn.never rfl (pi_tup (pe_tup (pa_cons (pe_op op_mulW (pe_op op_pow pe_int pe_int) pe_int) (pa_cons (pe_op op_mulW pe_int (pe_op op_pow pe_int pe_int)) (pa_cons (pe_op op_pow pe_int pe_int) pa_nil))))) (pg_name (i := 7) scLaw.nd rfl (.inl rfl))
        (C8.pss_cut (ps_set (i := 4) scLaw.nd rfl (.inl rfl) (pe_call T.GT hr (by rfl) T.gT T.kT T.bT .nil pass0 (pa_cons (pe_callN T.GE hr4 (by rfl) T.gE T.FE.kp kbb pass0 (pa_cons pe_int pa_nil) (pk_cons (pv 7) pk_nil)) pa_nil)))
        (pss_one (ps_if (PW.pt (pw_or (pt_val (pe_callB call_isi (by rfl) T.gI (by decide +kernel) (pa_cons (pv 4) (pa_cons (pe_bltn (v := .ty "str") (by rfl) T.gs (by decide +kernel) rfl) pa_nil))))
            (pw_or1 (pt_cmpR (op_neO T.GQ T.T.mq.at_ T.T.mq.fn T.bQ pass0 T.T.ne T.T.cm hr2) (pe_call T.GM hr4 (by rfl) T.gM T.kM T.bM .nil pass0 (pa_cons (pv 4) (pa_cons (pv 4) pa_nil))) (pe_callN T.GE hr4 (by rfl) T.gE T.FE.kp kbb pass0 (pa_cons pe_int pa_nil) (pk_cons (pv 7) pk_nil)) (nomark _)))))
            pss_never pss_nil))))
      (pss_one (ps_ret (pe_cmpR (op_eqO T.GQ T.T.mq.at_ T.T.mq.fn T.bQ pass0 hr1) (pe_call T.GT hr (by rfl) T.gT T.kT T.bT .nil pass0 (pa_cons (pe_call T.GE hr4 (by rfl) T.gE T.FE.kp bE vE pass0 (pa_cons pe_int pa_nil)) pa_nil)) (pe_call T.GE hr4 (by rfl) T.gE T.FE.kp bE vE pass0 (pa_cons pe_int pa_nil)) (nomark _))))))), ?_⟩
    refine ⟨_, rfl, a, ns, rfl, hS, hn, fun p c ms H1 sm hp0 hp1 hc1 hpc => ?_⟩
    have hP : PenAt H1 p c ms 0 := ⟨0, hp1, hc1, hpc⟩
    refine ⟨fun σ H' => ∃ (z2 z3 z4 z5 z6 z7 : Option V), σ = [some (.ref a), some (.ref p), z2, z3, z4, z5, z6, z7], ?_, fun σ H2 hM => ?_⟩
    · refine ⟨_, rfl, p, c, ms, 0, 20, rfl, hP, by omega, by omega, by decide, by decide, fun d m1 H2 d0 d1 x1 y1 p2 s2 => ?_⟩
      refine ⟨1, d, rfl, rfl, 1 + d, rfl, by omega, by omega, for_range (n := (1 + d).toNat) (fun i σ H' => ∃ (m : Int) (z2 z3 z4 z5 z6 z7 : Option V), σ = [some (.ref a), some (.ref p), z2, z3, z4, z5, z6, z7] ∧ 0 ≤ m ∧ m ≤ 10 + 100 * i ∧ PenAt H' p c ms m)
        ⟨m1, none, none, none, none, none, none, rfl, by omega, by omega, p2⟩ (fun i σ H3 hi hW => ?_) (fun σ H3 hW => ?_)⟩
      rotate_left
      · obtain ⟨m, z2, z3, z4, z5, z6, z7, rfl, _⟩ := hW
        exact ⟨z2, z3, z4, z5, z6, z7, rfl⟩
      obtain ⟨m, z2, z3, z4, z5, z6, z7, rfl, m0, m9, p3⟩ := hW
      have i20 : i ≤ 20 := by
        have : i < (1 + d).toNat := hi
        omega
      -- the number
      refine ⟨fun σ H' => ∃ (x : Addr) (q : Rat) (m' : Int), σ = [some (.ref a), some (.ref p), some (.int (0 + (i : Nat))), some (.ref x), z4, z5, z6, z7] ∧ NumAt C H' x [(1, q)] ∧ QF q ∧ 0 ≤ m' ∧ m' ≤ 80 + 100 * i ∧ PenAt H' p c ms m', ?_, fun σ H4 hM => ?_⟩
      · refine ⟨_, rfl, p, c, ms, m, rfl, p3, m0, by omega, fun k1 n1 G1 sk1 k16 a1 b1 pg1 sb1 => ?_⟩
        refine ⟨_, rfl, p, c, ms, n1, rfl, pg1, by omega, by omega, fun k2 n2 G2 sk2 k26 a2 b2 pg2 sb2 => ?_⟩
        refine ⟨rfl, rfl, ex_okB sk2.1 (Int.lt_trans k26 (by decide)) menu_roots.1 fun x G3 s3 hx e3 => ?_⟩
        rw [ex_one_root (Int.ne_of_gt sk1.1)] at e3
        exact ⟨x, _, n2, rfl, e3, qf_of sk1 sk2 k16 k26, by omega, by omega, pg2.same s3⟩
      obtain ⟨x, qq, m4, rfl, hx, hq, a4, b4, p4⟩ := hM
      -- told
      refine ⟨fun σ H' => ∃ (z : Addr) (R : Int) (s : Rat), σ = [some (.ref a), some (.ref p), some (.int (0 + (i : Nat))), some (.ref x), some (.ref z), z5, z6, z7] ∧ NumAt C H' x [(1, qq)] ∧ NumAt C H' z [(R, s)] ∧ TF R s qq ∧ PenAt H' p c ms m4, ?_, fun σ H5 hM => ?_⟩
      · exact ⟨_, rfl, told_goodB hx hq.sn hq.sd hq.n6 hq.d6 fun z R s H' sm hz tf => ⟨z, R, s, rfl, hx.same sm, hz, tf, p4.same sm⟩⟩
      obtain ⟨z, R, s, rfl, hx5, hz5, tf, p5⟩ := hM
      -- the test
      refine ⟨fun σ H' => σ = [some (.ref a), some (.ref p), some (.int (0 + (i : Nat))), some (.ref x), some (.ref z), z5, z6, z7] ∧ NumAt C H' x [(1, qq)] ∧ PenAt H' p c ms m4, ?_, fun σ H6 hM => ?_⟩
      · obtain ⟨dz, pz, hz1, hz2⟩ := id hz5
        refine ⟨_, rfl, _, _, _, _, false, rfl, .ty "str", T.T.ty hz1, T.kS, false, rfl, iteF ?_⟩
        refine ⟨_, rfl, _, rfl, times_sqB hz5 tf hq.ne fun y G1 s1 hy => ?_⟩
        obtain ⟨dy, py, hy1, hy2⟩ := id hy
        obtain ⟨dx, px, hx1, hx2⟩ := id (hx5.same s1)
        refine ⟨_, rfl, y, dy, _, _, rfl, hy1, T.T.ty hx1, notFirst_self, y, x, _, _, rfl, hy, hx5.same s1, _, rfl, _, rfl, iteNS rfl ?_⟩
        refine ⟨_, rfl, z, (R, s), rfl, hz5.same s1, tf.r0, tf.r1, tf.t0, tf.t1, tf.d1, fun G2 s2 => ?_⟩
        refine ⟨rfl, _, rfl, iteNS rfl ?_⟩
        obtain ⟨us, hu1, hu2⟩ := hz2
        have s12 := s1.trans s2
        refine ⟨_, rfl, z, C, dz, _, _, rfl, s12 _ _ hz1, T.T.cl, T.T.nP, rfl, pz, _, rfl, .inr (SqT.of (s12 _ _ hu1)), rfl, _, rfl, iteNS ?_ ?_⟩
        · rw [List.length_map, hu2.len]
          rfl
        · exact ⟨rfl, hx5.same s12, p5.same s12⟩
      obtain ⟨rfl, hx6, p6⟩ := hM
      -- what is refused: the first four
      refine ⟨fun σ H' => ∃ l, σ = [some (.ref a), some (.ref p), some (.int (0 + (i : Nat))), some (.ref x), some (.ref z), some (.ref l), z6, z7] ∧ BadsAt K C H' l 4 ∧ l ≠ p ∧ l ≠ c ∧ NumAt C H' x [(1, qq)] ∧ PenAt H' p c ms m4, ?_, fun σ H7 hM => ?_⟩
      · refine ⟨_, rfl, 1, rfl, ex_okB (by decide) (by decide) menu_roots.1 fun x1 G1 s1 hx1 e1 => ?_⟩
        rw [ex_one_root (by decide)] at e1
        refine times_oneB (hx6.same s1) e1 hq (divInt_ne (by decide) (by decide)) (by decide +kernel) (by decide +kernel) (by decide) (by decide) fun y1 G2 s2 hy1 => ?_
        have bad1 : Bad (1, qq * Rat.divInt (-1) 1) [] := bad_neg (by
          rw [← int_div1, show ((-1 : Int) : Rat) = -1 from rfl, Rat.mul_neg, Rat.mul_one, Rat.neg_num]
          have := hq.sn.1
          omega)
        refine ⟨by show 2 ≤ sizeLine; decide, fun t1 ht1 => ?_⟩
        have s3 := same_upd (o := .lst (([1, 1009] : List Int).map V.int)) ht1
        have k0 := Int.emod_nonneg (0 + (i : Int)) (show (2 : Int) ≠ 0 by decide)
        have k1 := Int.emod_lt_of_pos (0 + (i : Int)) (show (0 : Int) < 2 by decide)
        obtain ⟨v, hv, ev⟩ := pick [1, 1009] k0 k1
        refine ⟨_, rfl, _, 2, rfl, rfl, by show (0 : Int) < 2; decide, t1, _, _, _, rfl, rfl, SqL.of upd_same, ev, 1009, v, rfl, rfl, .inl ⟨by decide, by decide⟩, ?_⟩
        refine ex_okB (by decide) (by decide) menu_roots.1 fun y2 G3 s4 hy2 e2 => ?_
        have v0 : 1009 * v ≠ 0 := by
          have : ∀ v ∈ ([1, 1009] : List Int), 1009 * v ≠ 0 := by decide
          exact this v hv
        rw [ex_one_root v0] at e2
        refine ⟨1013, 1013, rfl, rfl, .inl ⟨by decide, by decide⟩, rfl, rfl, ex_okB (by decide) (by decide) menu_roots.1 fun y3 G4 s5 hy3 e3 => ?_⟩
        rw [ex_one_root (by decide)] at e3
        refine ⟨10, 60, rfl, rfl, ⟨by decide, by decide, by decide⟩, ex_okB (by decide) (by decide) menu_roots.1 fun y4 G5 s6 hy4 e4 => ?_⟩
        rw [ex_one_root (by decide)] at e4
        refine ⟨by show 4 ≤ sizeLine; decide, fun l hl => ?_⟩
        have s7 := same_upd (o := .lst [.ref y1, .ref y2, .ref y3, .ref y4]) hl
        have s67 := s6.trans s7
        have s57 := s5.trans s67
        have s27 := (s3.trans s4).trans s57
        have s17 := (s1.trans s2).trans s27
        refine ⟨l, rfl, ⟨_, upd_same, rfl, fun v' hv' => ?_⟩, fun zz => ?_, fun zz => ?_, hx6.same s17, p6.same s17⟩
        · simp only [List.mem_cons, List.not_mem_nil, or_false] at hv'
          rcases hv' with rfl | rfl | rfl | rfl
          · exact .inr ⟨y1, _, [], rfl, hy1.same s27, bad1⟩
          · exact .inr ⟨y2, _, [], rfl, e2.same s57, bad1009 v hv⟩
          · exact .inr ⟨y3, _, [], rfl, e3.same s67, bad1013⟩
          · exact .inr ⟨y4, _, [], rfl, e4.same s7, bad60⟩
        · exact ne_pen (p6.same (((s1.trans s2).trans (s3.trans s4)).trans (s5.trans s6))) hl zz
        · exact PenAt.nec (p6.same (((s1.trans s2).trans (s3.trans s4)).trans (s5.trans s6))) hl zz
      obtain ⟨l, rfl, ⟨xs, hl7, lx, bx⟩, lp, lc, hx7, p7⟩ := hM
      -- the fifth
      refine ⟨fun σ H' => σ = [some (.ref a), some (.ref p), some (.int (0 + (i : Nat))), some (.ref x), some (.ref z), some (.ref l), z6, z7] ∧ BadsAt K C H' l 5 ∧ NumAt C H' x [(1, qq)] ∧ PenAt H' p c ms m4, ?_, fun σ H8 hM => ?_⟩
      · refine ⟨_, rfl, .inl ⟨rfl, _, SqL.of hl7⟩, 10, 60, rfl, rfl, ⟨by decide, by decide, by decide⟩, 7, _, rfl, rfl, .inl ⟨by decide, by decide⟩, rfl, rfl, ex_okB (by decide) (by decide) menu_roots.1 fun y5 G1 s1 hy5 e5 => ?_⟩
        replace e5 : NumAt C G1 y5 [(1, Rat.divInt 1 (7 * 10 ^ 60))] := by
          rw [ex_one_root (by decide)] at e5
          exact e5
        have hl1 := s1 _ _ hl7
        refine ⟨l, xs, .ref y5, rfl, rfl, hl1, by rw [lx]; decide, rfl, ⟨_, upd_same, by rw [List.length_append, lx]; rfl, fun v hv => ?_⟩, (hx7.same s1).off upd_but hl1, pen_off (p7.same s1) lp lc⟩
        rcases List.mem_append.mp hv with hv | hv
        · exact ((bx v hv).same s1).off upd_but hl1
        · rw [List.mem_singleton.mp hv]
          exact .inr ⟨y5, _, [], rfl, e5.off upd_but hl1, bad760⟩
      obtain ⟨rfl, ⟨xs8, hl8, lx8, bx8⟩, hx8, p8⟩ := hM
      -- three more
      refine ⟨fun σ H' => ∃ l, σ = [some (.ref a), some (.ref p), some (.int (0 + (i : Nat))), some (.ref x), some (.ref z), some (.ref l), z6, z7] ∧ BadsAt K C H' l 8 ∧ l ≠ p ∧ PenAt H' p c ms m4, ?_, fun σ H9 hM => ?_⟩
      · refine ⟨_, rfl, _, rfl, rfl, rfl, ex_okB (by decide) (by decide) menu_roots.2.1 fun x1 G1 s1 hx1 e1 => ?_⟩
        rw [ex_menu (by decide), show oneL 2 1 1 = [(2, Rat.divInt 1 1)] from rfl] at e1
        refine plus_twoB (hx8.same s1) e1 hq (divInt_ne (by decide) (by decide)) ⟨by decide +kernel, by decide +kernel⟩ fun y1 G2 s2 hy1 => ?_
        have s12 := s1.trans s2
        refine ⟨_, rfl, rfl, rfl, ex_okB (by decide) (by decide) menu_roots.2.2.1 fun x2 G3 s3 hx2 e2 => ?_⟩
        rw [ex_menu (by decide), show oneL 5 1 1 = [(5, Rat.divInt 1 1)] from rfl] at e2
        have s13 := s12.trans s3
        refine times_oneB (hx8.same s13) e2 hq (divInt_ne (by decide) (by decide)) (by decide +kernel) (by decide +kernel) (by decide) (by decide) fun y2 G4 s4 hy2 => ?_
        refine ⟨rfl, rfl, ex_okB (by decide) (by decide) menu_roots.2.2.2 fun y3 G5 s5 hy3 e3 => ?_⟩
        rw [ex_menu (by decide), show oneL 6 1 1 = [(6, Rat.divInt 1 1)] from rfl] at e3
        refine ⟨by show 3 ≤ sizeLine; decide, fun l2 hl2 => ?_⟩
        have s6 := same_upd (o := .lst [.ref y1, .ref y2, .ref y3]) hl2
        have s16 := ((s13.trans s4).trans s5).trans s6
        refine ⟨l, l2, xs8, _, rfl, rfl, s16 _ _ hl8, upd_same, by rw [lx8]; show 5 + 3 ≤ sizeLine; decide, fun l3 hl3 => ?_⟩
        have s7 := same_upd (o := .lst (xs8 ++ [.ref y1, .ref y2, .ref y3])) hl3
        have s67 := s6.trans s7
        have s57 := s5.trans s67
        have s47 := s4.trans s57
        have s17 := s16.trans s7
        refine ⟨l3, rfl, ⟨_, upd_same, by rw [List.length_append, lx8]; rfl, fun v hv => ?_⟩, ne_pen (p8.same s16) hl3, p8.same s17⟩
        rcases List.mem_append.mp hv with hv | hv
        · exact (bx8 v hv).same s17
        · simp only [List.mem_cons, List.not_mem_nil, or_false] at hv
          rcases hv with rfl | rfl | rfl
          · exact .inr ⟨y1, _, _, rfl, hy1.same (s3.trans s47), bad_len hq.ne⟩
          · exact .inr ⟨y2, _, [], rfl, hy2.same s57, bad_root (mul_ne hq.ne (divInt_ne (by decide) (by decide))) (by decide)⟩
          · exact .inr ⟨y3, _, [], rfl, e3.same s67, bad_root (divInt_ne (by decide) (by decide)) (by decide)⟩
      obtain ⟨l9, rfl, ⟨xs9, hl9, lx9, bx9⟩, lp9, p9⟩ := hM
      -- the last four
      refine ⟨fun σ H' => ∃ l, σ = [some (.ref a), some (.ref p), some (.int (0 + (i : Nat))), some (.ref x), some (.ref z), some (.ref l), z6, z7] ∧ BadsAt K C H' l 12 ∧ l ≠ p ∧ PenAt H' p c ms m4, ?_, fun σ H10 hM => ?_⟩
      · refine ⟨_, rfl, by show 3 ≤ sizeLine; decide, fun t1 ht1 => ?_⟩
        have s1 := same_upd (o := .tup [.int 1, .int 4, .int 1]) ht1
        refine ⟨by show 4 ≤ sizeLine; decide, fun l2 hl2 => ?_⟩
        have s2 := same_upd (o := .lst [.int 4, .non, .str "4", .ref t1]) hl2
        have s12 := s1.trans s2
        refine ⟨l9, l2, xs9, _, rfl, rfl, s12 _ _ hl9, upd_same, by rw [lx9]; show 8 + 4 ≤ sizeLine; decide, fun l3 hl3 => ?_⟩
        have s3 := same_upd (o := .lst (xs9 ++ [.int 4, .non, .str "4", .ref t1])) hl3
        have s13 := s12.trans s3
        refine ⟨l3, rfl, ⟨_, upd_same, by rw [List.length_append, lx9]; rfl, fun v hv => ?_⟩, ne_pen (p9.same s12) hl3, p9.same s13⟩
        rcases List.mem_append.mp hv with hv | hv
        · exact (bx9 v hv).same s13
        · simp only [List.mem_cons, List.not_mem_nil, or_false] at hv
          have ht := (s2.trans s3) _ _ (upd_same (H := H9) (a := t1))
          rcases hv with rfl | rfl | rfl | rfl
          · exact .inl ⟨⟨_, .base (.int _), T.ko "int" (by decide)⟩, .inl fun _ e => by cases e⟩
          · exact .inl ⟨⟨_, .base .non, T.ko "NoneType" (by decide)⟩, .inl fun _ e => by cases e⟩
          · exact .inl ⟨⟨_, .base (.str _), T.ko "str" (by decide)⟩, .inl fun _ e => by cases e⟩
          · exact .inl ⟨⟨_, .base (.tup ht), T.ko "tuple" (by decide)⟩, .inr ⟨_, _, rfl, ht⟩⟩
      obtain ⟨l10, rfl, ⟨xs10, hl10, lx10, bx10⟩, lp10, p10⟩ := hM
      -- one of them
      refine ⟨fun σ H' => ∃ (v : V) (m' : Int), σ = [some (.ref a), some (.ref p), some (.int (0 + (i : Nat))), some (.ref x), some (.ref z), some (.ref l10), some v, z7] ∧ Refd K C H' v ∧ 0 ≤ m' ∧ m' ≤ 10 + 100 * (i + 1) ∧ PenAt H' p c ms m', ?_, fun σ H11 hM => ?_⟩
      · refine ⟨_, rfl, _, rfl, p, c, ms, m4, 12, rfl, p10, a4, by omega, by decide, by decide, fun dd n' G1 dd0 dd1 nn0 nn1 pg sb => ?_⟩
        obtain ⟨v, hv, ev⟩ := pickV (vs := xs10) dd0 (by rw [lx10]; exact dd1)
        obtain ⟨zs, hzs⟩ := p10.lst
        exact ⟨l10, xs10, dd, v, rfl, rfl, SqL.of (sb _ _ lp10 hl10), ev, v, n', rfl, ((bx10 v hv).off sb hzs).refd, by omega, by omega, pg⟩
      obtain ⟨v, m11, rfl, hv, a11, b11, p11⟩ := hM
      -- refused; the other told
      refine ⟨_, rfl, told_badB hv fun G1 s1 => ⟨rfl, _, rfl, iteNS rfl ?_⟩⟩
      refine ⟨10, 59, rfl, rfl, ⟨by decide, by decide, by decide⟩, ex_okB (by decide) (by decide) menu_roots.1 fun x1 G2 s2 hx1 e1 => ?_⟩
      have q59 : QF (Rat.divInt (10 ^ 59) 1) := qf_of (bads3 _ (by decide)).1 smooth_one (by decide) (by decide)
      replace e1 : NumAt C G2 x1 [(1, Rat.divInt (10 ^ 59) 1)] := by
        rw [ex_one_root (by decide)] at e1
        exact e1
      refine told_goodB e1 q59.sn q59.sd q59.n6 q59.d6 fun z' R' s' G3 s3 hz' tf' => ?_
      obtain ⟨dz, pz, hz1, hz2⟩ := id hz'
      refine ⟨z', dz, _, _, rfl, hz1, .base (.str _), notFirst_str T.sS, z', _, _, rfl, hz', false, rfl, false, rfl, iteF ?_⟩
      exact ⟨m11, _, _, _, _, _, _, rfl, a11, by omega, p11.same ((s1.trans s2).trans s3)⟩
    obtain ⟨z2, z3, z4, z5, z6, z7, rfl⟩ := hM
    -- the three bottoms
    refine ⟨fun σ H' => True, ?_, fun σ H3 _ => ?_⟩
    · refine ⟨10, 58, rfl, rfl, ⟨by decide, by decide, by decide⟩, _, 16, rfl, rfl, cmulw (A := 200) (B := 5) (by decide) (by decide) (by decide) (by decide) (by decide), 10, 58, rfl, rfl, ⟨by decide, by decide, by decide⟩, 25, _, rfl, rfl, cmulw (A := 5) (B := 200) (by decide) (by decide) (by decide) (by decide) (by decide), 10, 59, rfl, rfl, ⟨by decide, by decide, by decide⟩, by show 3 ≤ sizeLine; decide, fun t ht => ?_⟩
      refine ⟨t, rfl, ⟨_, SqT.of upd_same⟩, for_tup (xs := ([10 ^ 58 * 16, 25 * 10 ^ 58, 10 ^ 59] : List Int).map V.int) (fun j σ H' => H' t = some (.tup (([10 ^ 58 * 16, 25 * 10 ^ 58, 10 ^ 59] : List Int).map V.int)) ∧ ∃ (z2 z3 z4 z5 z6 z7 : Option V), σ = [some (.ref a), some (.ref p), z2, z3, z4, z5, z6, z7])
        ⟨upd_same, z2, z3, z4, z5, z6, z7, rfl⟩ (fun j σ H' _ hP => SqT.of hP.1) (fun j x σ H' hx hP => ?_) (fun σ H' hP => trivial)⟩
      obtain ⟨ht2, z2, z3, z4, z5, z6, z7, rfl⟩ := hP
      obtain ⟨v, hv, rfl⟩ : ∃ v ∈ ([10 ^ 58 * 16, 25 * 10 ^ 58, 10 ^ 59] : List Int), V.int v = x := List.mem_map.mp (List.mem_of_getElem? hx)
      obtain ⟨sv, v6⟩ := bads3 v hv
      have hq : QF (Rat.divInt 1 v) := qf_of smooth_one sv (by decide) v6
      have vB : v < 2 ^ 300 := Int.lt_trans v6 (by decide)
      refine ⟨fun σ G => ∃ (z : Addr) (R : Int) (s : Rat), σ = [some (.ref a), some (.ref p), z2, z3, some (.ref z), z5, z6, some (.int v)] ∧ NumAt C G z [(R, s)] ∧ TF R s (Rat.divInt 1 v) ∧ G t = some (.tup (([10 ^ 58 * 16, 25 * 10 ^ 58, 10 ^ 59] : List Int).map V.int)), ?_, fun σ G hM => ?_⟩
      · refine ⟨_, rfl, rfl, rfl, ex_okB sv.1 vB menu_roots.1 fun x1 G1 s1 hx1 e1 => ?_⟩
        rw [ex_one_root (by decide)] at e1
        exact told_goodB e1 hq.sn hq.sd hq.n6 hq.d6 fun z R s G2 s2 hz tf => ⟨z, R, s, rfl, hz, tf, (s1.trans s2) _ _ ht2⟩
      obtain ⟨z, R, s, rfl, hz, tf, ht3⟩ := hM
      obtain ⟨dz, pz, hz1, hz2⟩ := id hz
      refine ⟨_, rfl, _, _, _, _, false, rfl, .ty "str", T.T.ty hz1, T.kS, false, rfl, iteF ?_⟩
      refine ⟨_, rfl, _, rfl, times_sqB hz tf hq.ne fun y G1 s1 hy => ?_⟩
      refine ⟨_, rfl, rfl, rfl, ex_okB sv.1 vB menu_roots.1 fun x1 G2 s2 hx1 e1 => ?_⟩
      rw [ex_one_root (by decide)] at e1
      have hy2 := hy.same s2
      obtain ⟨dy, py, hy1, _⟩ := id hy2
      obtain ⟨dx, px, hx2, _⟩ := id e1
      refine ⟨y, dy, _, _, rfl, hy1, T.T.ty hx2, notFirst_self, y, x1, _, _, rfl, hy2, e1, _, rfl, _, rfl, iteNS rfl ?_⟩
      exact ⟨(s1.trans s2) _ _ ht3, _, _, _, _, _, _, rfl⟩
    · refine ex_okB (by decide) (by decide) menu_roots.1 fun x1 G1 s1 hx1 e1 => ?_
      rw [ex_nil] at e1
      refine told_zeroB e1 fun G2 s2 => ?_
      refine ex_okB (by decide) (by decide) menu_roots.1 fun x2 G3 s3 hx2 e2 => ?_
      rw [ex_nil] at e2
      have e3 := (e1.same s2).same s3
      obtain ⟨d1, p1, h1, _⟩ := id e3
      obtain ⟨d2, p2, h2, _⟩ := id e2
      exact ⟨x1, d1, _, _, rfl, h1, T.T.ty h2, notFirst_self, x1, x2, _, _, rfl, e3, e2, _, rfl, q _⟩
end
end TC
namespace TC
open PySem PySem.Spec PyProof.Rows L2
theorem run (w : World) : HandSHeadRun.RunEq R (PySem.W.view R.prog [67]) hk ob 30000 loose w := by
  intro os
  kernel_rfl
end TC
namespace TC
open PySem PySem.Spec PyProof.Rows L2 TCA TCX
theorem facts {P : Program} {w : World} {K : PySem.W.Frag} {h : Heap} {mg : Str → Option Value} {f : Addr} (X : K.In h) (G : h.Ns mainGlobals mg) (hfa : mg ("law" : Str) = some (.ref f)) (sx : He.SaysX fa fn [] tf exB w h K) :
    ∃ fd : FuncData, (∀ (s : Shared) (v : Value), BindsTo s fd ⟨[v], []⟩ [("_law_script", v)]) ∧ ∀ base : Heap, K.In base → base.Ns mainGlobals mg → FnOk P w K mg base CX0 6 f fd ["_law_script"] (spLaw K) := by
  have c := sx.t.d
  obtain ⟨fdI, FI⟩ := c.def_ 0 (d := dm "__init__" "Exact.__init__" sInit) rfl
  obtain ⟨fdQ, FQ⟩ := c.def_ 1 (d := dm "__eq__" "Exact.__eq__" sEq) rfl
  obtain ⟨fdE, FE⟩ := c.def_ 2 (d := dExact) rfl
  obtain ⟨fd0, F0⟩ := c.def_ 3 (d := dd "is_whole" sWhole) rfl
  obtain ⟨fd1, F1⟩ := c.def_ 4 (d := dd "shared" sShared) rfl
  obtain ⟨fd2, F2⟩ := c.def_ 5 (d := dd "in_lowest" sLowest) rfl
  obtain ⟨fd3, F3⟩ := c.def_ 6 (d := dd "sum_in_lowest" sSumLow) rfl
  obtain ⟨fd4, F4⟩ := c.def_ 7 (d := dd "squares_out" sSquares) rfl
  obtain ⟨fd5, F5⟩ := c.def_ 8 (d := dd "floor_root" sFloor) rfl
  obtain ⟨fd6, F6⟩ := c.def_ 9 (d := dd "plus" sPlus) rfl
  obtain ⟨fd7, F7⟩ := c.def_ 10 (d := dd "times" sTimes) rfl
  obtain ⟨fd8, F8⟩ := c.def_ 11 (d := dd "sign" sSign) rfl
  obtain ⟨fd9, F9⟩ := c.def_ 12 (d := dd "root_of" sRootOf) rfl
  obtain ⟨fd10, F10⟩ := c.def_ 13 (d := dd "need_exact" sNeed) rfl
  obtain ⟨fd11, F11⟩ := c.def_ 14 (d := dd "merged" sMerged) rfl
  obtain ⟨fd12, F12⟩ := c.def_ 15 (d := dd "on_one_bottom" sOneBottom) rfl
  obtain ⟨fd13, F13⟩ := c.def_ 16 (d := dd "lowered" sLowered) rfl
  obtain ⟨fd14, F14⟩ := c.def_ 17 (d := dd "products" sProducts) rfl
  obtain ⟨fd15, F15⟩ := c.def_ 18 (d := dd "bounds" sBounds) rfl
  obtain ⟨fd16, F16⟩ := c.def_ 19 (d := dd "_law_pen" sPen) rfl
  obtain ⟨fd17, F17⟩ := c.def_ 20 (d := dd "_law_draw" sDraw) rfl
  obtain ⟨fd18, F18⟩ := c.def_ 21 (d := dd "_law_word" sWord) rfl
  obtain ⟨fd19, F19⟩ := c.def_ 22 (d := dd "_law_low" sLow) rfl
  obtain ⟨fd20, F20⟩ := c.def_ 23 (d := dd "_law_told" sTold) rfl
  obtain ⟨fd21, F21⟩ := c.def_ 24 (d := dd "_law_whole" sLWhole) rfl
  obtain ⟨fd22, F22⟩ := c.def_ 25 (d := dd "law" sLaw) rfl
  have glo : ∀ (i : Nat) (x : Str), TC.fa[i]? = some (.glo x) → mg x = some (.ref (He.ga K x)) := fun i x e => He.glo_ok X G (c.fact i (f := .glo x) e)
  have free : ∀ (i : Nat) (x : Str), TC.fa[i]? = some (.free x) → mg x = none := fun i x e => He.free_ok X G (c.fact i (f := .free x) e)
  obtain ⟨tH, gH⟩ := He.int_ok X G (c.fact 3 (f := .int "HIGHEST_ROOT" 1000000) rfl)
  obtain ⟨tL, gL⟩ := He.int_ok X G (c.fact 4 (f := .int "TOO_LONG" (10 ^ 60)) rfl)
  obtain ⟨tB, gB⟩ := He.int_ok X G (c.fact 5 (f := .int "FIRST_BITS" 64) rfl)
  obtain ⟨xn, xe⟩ := He.ba sx.more
  obtain ⟨x1, xe⟩ := He.ba xe
  obtain ⟨x2, x3⟩ := He.ba xe
  obtain ⟨xP, ex⟩ := He.ba xn
  obtain ⟨xN, ex⟩ := He.ba ex
  obtain ⟨xC, ex⟩ := He.ba ex
  obtain ⟨xG, ex⟩ := He.ba ex
  obtain ⟨xT, ex⟩ := He.ba ex
  obtain ⟨xM, xO⟩ := He.ba ex
  have kN := excAllF_ok x2

  obtain ⟨e1, e2, e3, e4⟩ := He.exc_ok (c.fact 56 (f := .exc "NoNumber") rfl)
  have XT : XTxt K mg "NoNumber" (He.ga K "NoNumber") := ⟨(glo 34 "NoNumber" rfl), e1, e2, e3, e4⟩
  have T : TxtN K mg (He.ga K "Exact") (He.ma K (He.ga K "Exact") "__init__") (He.ma K (He.ga K "Exact") "__eq__") := {
    cl := He.cls_ok (c.fact 6 (f := .cls "Exact") rfl)
    nP := He.noat_ok (c.fact 7 (f := .noat "Exact" "parts") rfl)
    mkr := He.mkr_ok (c.fact 8 (f := .mkr "Exact") rfl)
    mq := He.meth_ok (c.fact 9 (f := .meth "Exact" "__eq__") rfl)
    mgC := glo 0 "Exact" rfl
    ne := He.eqO_ok xN
    ca := He.eqO_ok xC
    cn := He.eqO_ok xG
    ct := of_decide_eq_true xT
    cm := of_decide_eq_true xM }
  have ko : ∀ t ∈ others, PySem.W.subIn K (.type t) (.ref (He.ga K "Exact")) = some false ∧ PySem.W.kitOne K (.type t) (.ref (He.ga K "Exact")) = some false := fun t ht => by
    obtain ⟨z1, z2⟩ := He.ba (List.all_eq_true.mp xO t ht)
    exact ⟨of_decide_eq_true z1, of_decide_eq_true z2⟩
  have hT : ∀ H, SqT K H (He.ga K "PRIMES") (TCM.primes.map V.int) := fun H => by
    have z := He.tupB_ok xP H
    rw [List.map_map] at z
    exact z
  have WT : WTxt K mg := ⟨fun i x e => ?_, (glo 33 "TurnError" rfl), (free 69 "ValueError" rfl), (free 70 "ZeroDivisionError" rfl), (free 71 "KeyError" rfl), (free 72 "IndexError" rfl), (free 73 "LookupError" rfl), (free 57 "isinstance" rfl)⟩
  rotate_left
  · match i, e with
    | 0, e => cases e; exact glo 49 "Empty" rfl
    | 1, e => cases e; exact glo 47 "NoDeed" rfl
    | 2, e => cases e; exact glo 45 "NoHalf" rfl
    | 3, e => cases e; exact glo 46 "NoLinking" rfl
    | 4, e => cases e; exact glo 40 "NoNet" rfl
    | 5, e => cases e; exact glo 34 "NoNumber" rfl
    | 6, e => cases e; exact glo 36 "NoOffset" rfl
    | 7, e => cases e; exact glo 48 "NoQuestion" rfl
    | 8, e => cases e; exact glo 41 "NoRow" rfl
    | 9, e => cases e; exact glo 35 "NoSize" rfl
    | 10, e => cases e; exact glo 42 "NoStanding" rfl
    | 11, e => cases e; exact glo 38 "NoTable" rfl
    | 12, e => cases e; exact glo 51 "NoText" rfl
    | 13, e => cases e; exact glo 50 "NotParted" rfl
    | 14, e => cases e; exact glo 43 "NoTree" rfl
    | 15, e => cases e; exact glo 37 "NoTriple" rfl
    | 16, e => cases e; exact glo 44 "NoWay" rfl
    | 17, e => cases e; exact glo 39 "TooWide" rfl
    | 18, e => cases e; exact glo 54 "ByNought" rfl
    | 19, e => cases e; exact glo 52 "NoName" rfl
    | 20, e => cases e; exact glo 53 "NoPlace" rfl
    | 21, e => cases e; exact glo 55 "NothingDone" rfl
    | n + 22, e =>
      have z : ([] : List Str)[n]? = some x := e
      cases z
  have ST : STxt K mg := ⟨(glo 33 "TurnError" rfl), (glo 54 "ByNought" rfl), (glo 52 "NoName" rfl), (glo 53 "NoPlace" rfl), (glo 55 "NothingDone" rfl)⟩
  have e := hfa.symm.trans (glo 32 "law" rfl)
  cases e
  have bQ := FunD.bindsN (ps := ["self", "other"]) FQ fun _ _ _ _ _ _ us hl => match us, hl with | [_, _], _ => rfl
  have bI := FunD.bindsN (ps := ["self", "parts"]) FI fun _ _ _ _ _ _ us hl => match us, hl with | [_, _], _ => rfl
  have b0 := FunD.bindsN (ps := ["thing"]) F0 fun _ _ _ _ _ _ us hl => match us, hl with | [_], _ => rfl
  have b1 := FunD.bindsN (ps := ["one", "other"]) F1 fun _ _ _ _ _ _ us hl => match us, hl with | [_, _], _ => rfl
  have b2 := FunD.bindsN (ps := ["top", "bottom"]) F2 fun _ _ _ _ _ _ us hl => match us, hl with | [_, _], _ => rfl
  have b3 := FunD.bindsN (ps := ["top", "bottom", "other", "below"]) F3 fun _ _ _ _ _ _ us hl => match us, hl with | [_, _, _, _], _ => rfl
  have b4 := FunD.bindsN (ps := ["number"]) F4 fun _ _ _ _ _ _ us hl => match us, hl with | [_], _ => rfl
  have b5 := FunD.bindsN (ps := ["number"]) F5 fun _ _ _ _ _ _ us hl => match us, hl with | [_], _ => rfl
  have b6 := FunD.bindsN (ps := ["one", "other"]) F6 fun _ _ _ _ _ _ us hl => match us, hl with | [_, _], _ => rfl
  have b7 := FunD.bindsN (ps := ["one", "other"]) F7 fun _ _ _ _ _ _ us hl => match us, hl with | [_, _], _ => rfl
  have b8 := FunD.bindsN (ps := ["one"]) F8 fun _ _ _ _ _ _ us hl => match us, hl with | [_], _ => rfl
  have b9 := FunD.bindsN (ps := ["one"]) F9 fun _ _ _ _ _ _ us hl => match us, hl with | [_], _ => rfl
  have b10 := FunD.bindsN (ps := ["thing"]) F10 fun _ _ _ _ _ _ us hl => match us, hl with | [_], _ => rfl
  have b11 := FunD.bindsN (ps := ["parts", "others"]) F11 fun _ _ _ _ _ _ us hl => match us, hl with | [_, _], _ => rfl
  have b12 := FunD.bindsN (ps := ["parts"]) F12 fun _ _ _ _ _ _ us hl => match us, hl with | [_], _ => rfl
  have b13 := FunD.bindsN (ps := ["tops", "bottom"]) F13 fun _ _ _ _ _ _ us hl => match us, hl with | [_, _], _ => rfl
  have b14 := FunD.bindsN (ps := ["tops", "others"]) F14 fun _ _ _ _ _ _ us hl => match us, hl with | [_, _], _ => rfl
  have b15 := FunD.bindsN (ps := ["parts", "bits"]) F15 fun _ _ _ _ _ _ us hl => match us, hl with | [_, _], _ => rfl
  have b16 := FunD.bindsN (ps := ["_law_script"]) F16 fun _ _ _ _ _ _ us hl => match us, hl with | [_], _ => rfl
  have b17 := FunD.bindsN (ps := ["_law_pen_here", "_law_many"]) F17 fun _ _ _ _ _ _ us hl => match us, hl with | [_, _], _ => rfl
  have b18 := FunD.bindsN (ps := ["_law_e"]) F18 fun _ _ _ _ _ _ us hl => match us, hl with | [_], _ => rfl
  have b19 := FunD.bindsN (ps := ["_law_up", "_law_under"]) F19 fun _ _ _ _ _ _ us hl => match us, hl with | [_, _], _ => rfl
  have b20 := FunD.bindsN (ps := ["_law_number"]) F20 fun _ _ _ _ _ _ us hl => match us, hl with | [_], _ => rfl
  have b21 := FunD.bindsN (ps := ["_law_pen_here"]) F21 fun _ _ _ _ _ _ us hl => match us, hl with | [_], _ => rfl
  have b := FunD.bindsA (ps := ["_law_script"]) F22 fun _ _ _ _ _ _ us hl => match us, hl with | [_], _ => rfl
  refine ⟨fd22, fun s v => b s [v] rfl, fun base _ _ => ?_⟩
  have GW : FnOk P w K mg base CX0 1 _ fd0 ["thing"] spWhole := ok_whole F0 (free 57 "isinstance" rfl) (free 58 "int" rfl) (free 59 "bool" rfl)
  have GWX : FnOk P w K mg base CX0 1 _ fd0 ["thing"] (spWholeX K) := ok_wholeX F0 (free 57 "isinstance" rfl) (free 58 "int" rfl) (free 59 "bool" rfl)
  have GSh : FnOk P w K mg base CX0 1 _ fd1 ["one", "other"] spShared := ok_shared F1 (free 60 "abs" rfl)
  have GLo : FnOk P w K mg base CX0 2 _ fd2 ["top", "bottom"] spLowest := ok_lowest F2 GSh b1 F1.kp (glo 11 "shared" rfl)
  have GSu : FnOk P w K mg base CX0 2 _ fd3 ["top", "bottom", "other", "below"] spSumLow := ok_sumLow F3 GSh b1 F1.kp (glo 11 "shared" rfl)
  have GSq : FnOk P w K mg base CX0 1 _ fd4 ["number"] spSquares := ok_squares F4 (glo 2 "PRIMES" rfl) hT
  have GI : FnOk P w K mg base CX0 1 _ fdI ["self", "parts"] (spInit (He.ga K "Exact")) := ok_init FI T
  have GNe : FnOk P w K mg base CX0 1 _ fd10 ["thing"] (spNeed (He.ga K "Exact")) := ok_need F10 T (free 57 "isinstance" rfl)
  have GMe : FnOk P w K mg base CX0 3 _ fd11 ["parts", "others"] spMerged := ok_merged F11 GSu b3 F3.kp (glo 13 "sum_in_lowest" rfl) (free 61 "sorted" rfl) (free 62 "list" rfl) (free 63 "tuple" rfl)
  have GLw : FnOk P w K mg base CX0 3 _ fd13 ["tops", "bottom"] (spLowered (He.ga K "Exact")) := ok_lowered F13 T GLo b2 F2.kp (glo 12 "in_lowest" rfl) GI bI (free 61 "sorted" rfl) (free 62 "list" rfl) (free 63 "tuple" rfl)
  have GE : FnOk P w K mg base CX0 4 _ fdE psE (spExact (He.ga K "Exact")) := ok_exact FE GW b0 F0.kp (glo 10 "is_whole" rfl) GSq b4 F4.kp (glo 14 "squares_out" rfl) GLw b13 F13.kp (glo 23 "lowered" rfl) gH
  have GPl : FnOk P w K mg base CX0 4 _ fd6 ["one", "other"] (spPlus (He.ga K "Exact")) := ok_plus F6 T GNe b10 F10.kp (glo 20 "need_exact" rfl) GMe b11 F11.kp (glo 21 "merged" rfl) GI bI
  have GP : FnOk P w K mg base CX0 1 _ fd16 ["_law_script"] (spPen K) := ok_pen F16 (free 62 "list" rfl)
  have GD : FnOk P w K mg base CX0 1 _ fd17 ["_law_pen_here", "_law_many"] spDraw := ok_draw F17 (free 64 "len" rfl)
  have GQ : FnOk P w K mg base CX0 1 _ fdQ ["self", "other"] (spEqN (He.ga K "Exact")) := ok_eq FQ T (free 57 "isinstance" rfl)
  have GQS : FnOk P w K mg base CX0 1 _ fdQ ["self", "other"] (spEqS (He.ga K "Exact")) := ok_eqS FQ T (free 57 "isinstance" rfl) (ko "str" (by decide)).2
  have GSB : FnOk P w K mg base CX0 1 _ fd4 ["number"] spSqBig := ok_sqBig F4 (glo 2 "PRIMES" rfl) hT
  have GF : FnOk P w K mg base CX0 1 _ fd5 ["number"] spFloor := ok_floor F5 (free 66 "reversed" rfl) (free 65 "range" rfl)
  have GBo : FnOk P w K mg base CX0 2 _ fd15 ["parts", "bits"] spBounds := ok_bounds F15 GF b5 F5.kp (glo 15 "floor_root" rfl)
  have GSi : FnOk P w K mg base CX0 3 _ fd8 ["one"] (spSign1 (He.ga K "Exact")) := ok_sign1 F8 T GNe b10 F10.kp (glo 20 "need_exact" rfl) GBo b15 F15.kp (glo 25 "bounds" rfl) gB
  have GOb : FnOk P w K mg base CX0 2 _ fd12 ["parts"] spOneB := ok_oneB F12 GSh b1 F1.kp (glo 11 "shared" rfl)
  have GPr : FnOk P w K mg base CX0 2 _ fd14 ["tops", "others"] spProducts := ok_products F14 GSh b1 F1.kp (glo 11 "shared" rfl)
  have GTi : FnOk P w K mg base CX0 4 _ fd7 ["one", "other"] (spTimes (He.ga K "Exact")) := ok_times F7 T GNe b10 F10.kp (glo 20 "need_exact" rfl) GOb b12 F12.kp (glo 22 "on_one_bottom" rfl) GPr b14 F14.kp (glo 24 "products" rfl) GLw b13 F13.kp (glo 23 "lowered" rfl)
  have GNX : FnOk P w K mg base (L2.CX P w) 1 _ fd10 ["thing"] (spNeedX K (He.ga K "Exact") (He.ga K "NoNumber")) := ok_needX F10 T XT (free 57 "isinstance" rfl)
  have GRo : FnOk P w K mg base (L2.CX P w) 4 _ fd9 ["one"] (spRoot K (He.ga K "Exact") (He.ga K "NoNumber")) := ok_root F9 T XT GNX b10 F10.kp (glo 20 "need_exact" rfl) GSB b4 F4.kp (glo 14 "squares_out" rfl) GLw b13 F13.kp (glo 23 "lowered" rfl) gL (free 64 "len" rfl)
  have GWd : FnOk P w K mg base CX0 1 _ fd18 ["_law_e"] (spWord K) := ok_word F18 WT
  have GT : FnOk P w K mg base CX0 5 _ fd20 ["_law_number"] (spTold K (He.ga K "Exact")) := ok_told F20 ST GRo b9 F9.kp (glo 19 "root_of" rfl) GWd b18 F18.kp (glo 28 "_law_word" rfl) kN
  have GLW : FnOk P w K mg base CX0 2 _ fd21 ["_law_pen_here"] spLW := ok_lw F21 GD b17 F17.kp (glo 27 "_law_draw" rfl) (free 65 "range" rfl) (free 64 "len" rfl) (free 67 "str" rfl)
  exact ok_law F22 ⟨T, GQ, GQS, bQ, of_decide_eq_true x3, (ko "str" (by decide)).1, fun t ht => (ko t ht).2, GP, b16, F16.kp, (glo 26 "_law_pen" rfl), GD, b17, F17.kp, (glo 27 "_law_draw" rfl), FE, boxed GE, (glo 1 "exact" rfl), boxed GPl, b6, F6.kp, (glo 16 "plus" rfl), boxed GTi, b7, F7.kp, (glo 17 "times" rfl), GSi, b8, F8.kp, (glo 18 "sign" rfl), boxed GT, b20, F20.kp, (glo 30 "_law_told" rfl), GLW, b21, F21.kp, (glo 31 "_law_whole" rfl), (free 65 "range" rfl), (free 57 "isinstance" rfl), (free 67 "str" rfl), (free 64 "len" rfl)⟩
end TC
open PySem PySem.W PySem.Calls PyProof.Rows
set_option maxHeartbeats 0 in
theorem PySem.Challenge.cw_turncouple_k06_roots_of_fractions_holds : PySem.Challenge.rw_turncouple_k06_roots_of_fractions.Holds := by
  w_on; o_law
  refine HandSHeadRun.head_any (r := OpenLaw.row PySem.Challenge.rw_turncouple_k06_roots_of_fractions) (q := view (OpenLaw.row PySem.Challenge.rw_turncouple_k06_roots_of_fractions).prog [67]) (H := TC.hk) (ob := TC.ob) (M := 30000) (loose := TC.loose) (d := HandSHeadRun.topDef (OpenLaw.row PySem.Challenge.rw_turncouple_k06_roots_of_fractions).prog 67) (kwd := []) TC.ob_eq
    (by kernel_rfl) (fun s => by kernel_rfl) TC.run (by kernel_rfl) (by kernel_rfl) (by kernel_rfl) (by rfl) (by first | assumption | decide +kernel) (by decide +kernel) ⟨rfl, rfl, rfl, rfl, rfl, by decide +kernel⟩ ?hw ?hc
  case hw => w_witness2
  case hc =>
    refine L2.walk_ofE (l := PySem.Challenge.rw_turncouple_k06_roots_of_fractions) (n := 63) (k := 6) (x := "_law_script") (CX := L2.CX0) rfl (by decide) (by kernel_rfl) ⟨rfl, by decide, by decide⟩ ?F (fun _ _ _ _ z => z)
    intro w mg fa h Y G hmg0
    obtain ⟨K, KX, sx⟩ := Y
    have hmg : mg ("law" : PySem.Str) = some (.ref fa) := by
      have e : (HandSHeadRun.topDef (OpenLaw.row PySem.Challenge.rw_turncouple_k06_roots_of_fractions).prog 67).name = ("law" : PySem.Str) := by kernel_rfl
      rw [← e]
      exact hmg0
    obtain ⟨fd, hb, hF⟩ := TC.facts (P := (PySem.Challenge.rw_turncouple_k06_roots_of_fractions).prog) (w := w) KX G hmg sx
    exact ⟨K, fd, TC.spLaw K, KX, hb, fun H a ns hl _ hS => ⟨a, ns, rfl, hS, hl, fun _ => rfl⟩, hF⟩
