import PyProof.Rows.All
import Wide.All
import OpenK.AllK
import Wide.FinOn
import KE.KIsAll
import KE.KTryMore
import HandS.ForMost
import HandS.ForExc
import HandS.Defaults
import HandS.ExcIs
import HandS.Lambda
import HandS.Codes
import HandS.Conv
import HandS.More
import HandS.Walk
import HandS.EndTab
import HandS.HeadWalk
import PyProof.ReprRoads
import PyProof.ListRange
import HandS.HeadHook1
import HandS.HeadHook2
import HandS.HeadHook3
import HandS.HeadHook4
import KE.KStateDown
import Lean
import HandS.IsInst
import HandS.Head0
import HandS.Head1
import HandS.Head2
import HandS.HeadEnd
import HandS.Wide
import KE.GoesMore
import KE.GoesEnum
import KE.KFmtOwn
import PyProof.InstEq
import HandS.OwnEq
import HandS.WideMore
import PyProof.ReprLen
import HandS.TupAny
import HandS.Dict
import HandS.DictComp
import HandS.SortInts
import HandS.Iter
import HandS.Zip
import HandS.SortKw
import KE.GoesEnumKw
import KE.GoesZip
import PyProof.Rows.CallKwBuiltin
import HandS.List
import PySem.Challenge.RW_turncouple_k39_places_of_labels
set_option Elab.async false
set_option linter.all false
set_option maxRecDepth 100000
set_option maxHeartbeats 4000000
/-! Exceptions that are caught, kept in a name and asked of later. -/
namespace TCX
open PySem PySem.Spec PyProof.Rows L2
/-! ### a clause that names five classes -/
section
open PySem.W
variable {M : Model} {K : Frag}
theorem exm_tup5 {c1 c2 c3 c4 c5 cls : Value} {tp e : Addr} {b : Bool} {h : Heap} (X : K.In h) (LT : Looks M h (typeOf (.ref e)) cls) (hp : h.get? tp = some { cls := .type "tuple", data := .seq [c1, c2, c3, c4, c5].toArray }) (hx : exmAny K cls [c1, c2, c3, c4, c5] = some b) :
    Looks M h (excMatches (.ref e) (.ref tp)) b := by
  intro A Q E s k₀ q
  obtain ⟨hh, g, d, tk, os⟩ := s
  have k : ∀ b o, h.get? b = some o → hh.get? b = some o := k₀
  have T0 : Looks M h (isInstance (.ref tp) (.type "tuple")) true := ((Looks.ld hp).andThen .now).andThen (Looks.of_pure isSubtype_tuple_tuple)
  have T1 := T0.keeps k
  have TY := LT.keeps k
  have hp' := k _ _ hp
  obtain ⟨b1, d1, x1, y1, z1⟩ := exmAny_cons hx
  obtain ⟨b2, d2, x2, y2, z2⟩ := exmAny_cons y1
  obtain ⟨b3, d3, x3, y3, z3⟩ := exmAny_cons y2
  obtain ⟨b4, d4, x4, y4, z4⟩ := exmAny_cons y3
  obtain ⟨b5, d5, x5, y5, z5⟩ := exmAny_cons y4
  have u1 := (exm_cls (M := M) X x1).1.keeps k
  have v1 := (exm_cls (M := M) X x1).2.keeps k
  have u2 := (exm_cls (M := M) X x2).1.keeps k
  have v2 := (exm_cls (M := M) X x2).2.keeps k
  have u3 := (exm_cls (M := M) X x3).1.keeps k
  have v3 := (exm_cls (M := M) X x3).2.keeps k
  have u4 := (exm_cls (M := M) X x4).1.keeps k
  have v4 := (exm_cls (M := M) X x4).2.keeps k
  have u5 := (exm_cls (M := M) X x5).1.keeps k
  have v5 := (exm_cls (M := M) X x5).2.keeps k
  have w5 : some false = some d5 := y5
  cases w5
  subst z1 z2 z3 z4 z5
  unfold excMatches
  refine wpAny_bind (T1.at ?_)
  dsimp only
  rw [if_pos rfl]
  first
    | refine wpAny_bind (wpAny_seqItems hp' rfl ?_)
    | refine wpAny_bind (wpAny_bind (wpAny_seqItems hp' rfl (wpAny_pure ?_)))
  dsimp only [Option.getD_some, Option.getD]
  cases b1 <;> cases b2 <;> cases b3 <;> cases b4 <;> cases b5 <;> ((repeat (first | simp only [List.forIn_cons, List.forIn_nil, Bool.not_true, Bool.false_eq_true, if_false, if_true] | lk)); exact q)
end
/-- the test t of a clause, asked while an exception of the class cls is handled: it says b -/
def Tst (X : Cx) (t : Expr) (cls : Value) (b : Bool) : Prop :=
  ∀ (a : Addr) (oe : Obj) (pn : List (Addr × Obj)) (σ : L2.St) (H : Hp) (s : Shared) (Q : Bool → Shared → Prop) (E : Value → Shared → Prop),
    Inv (X.suite a ((a, oe) :: pn)) [] σ H s → oe.cls = cls → (∀ h', (∀ q o, s.heap.get? q = some o → h'.get? q = some o) → Q b { s with heap := h' }) →
    wpAny (model X.prog X.w) (X.A.mark (some (.ref a))) (eval t X.env) (fun c s₁ => wpAny (model X.prog X.w) (X.A.mark (some (.ref a))) (excMatches (.ref a) c) Q E s₁) E s
section
variable {X : Cx}
theorem suite_ty {a : Addr} {oe : Obj} {pn : List (Addr × Obj)} {σ : L2.St} {H : Hp} {s : Shared} (I : Inv (X.suite a ((a, oe) :: pn)) [] σ H s) : PySem.W.Looks (model X.prog X.w) s.heap (typeOf (.ref a)) oe.cls := by
  obtain ⟨hget, _⟩ := I.pin (a, oe) (List.mem_append.mpr (.inl List.mem_cons_self))
  exact fun A Q E s k q => wpAny_typeOf_ref (k _ _ hget) q
theorem ld_names {a : Addr} {oe : Obj} {pn : List (Addr × Obj)} {σ : L2.St} {H : Hp} {s : Shared} {x : Str} {c : Value} {np : Pos} {Q : Value → Shared → Prop} {E : Value → Shared → Prop} (hc : Names X x c) (I : Inv (X.suite a ((a, oe) :: pn)) [] σ H s) (q : Q c s) :
    wpAny (model X.prog X.w) (X.A.mark (some (.ref a))) (eval (.Name x np) X.env) Q E s := by
  obtain ⟨hg, hdbg, hm | ⟨hm, hv, hnn⟩⟩ := hc
  · exact ld_glob (X := X.suite a ((a, oe) :: pn)) I hg hm q hdbg
  · exact ld_blt (X := X.suite a ((a, oe) :: pn)) I hg hm hv q hnn hdbg
theorem tst_name {x : Str} {c cls : Value} {np : Pos} {b : Bool} (hc : Names X x c) (he : PySem.W.exmOne X.K cls c = some b) : Tst X (.Name x np) cls b := by
  intro a oe pn σ H s Q E I e q
  subst e
  exact ld_names hc I ((PySem.W.exm_one I.kIn (suite_ty I) he).here (q s.heap fun _ _ z => z))
theorem tst_tup4 {x1 x2 x3 x4 : Str} {c1 c2 c3 c4 cls : Value} {p1 p2 p3 p4 tpos : Pos} {kk : Nat} {b : Bool} (n1 : Names X x1 c1) (n2 : Names X x2 c2) (n3 : Names X x3 c3) (n4 : Names X x4 c4) (he : PySem.W.exmAny X.K cls [c1, c2, c3, c4] = some b) :
    Tst X (.Tuple [.Name x1 p1, .Name x2 p2, .Name x3 p3, .Name x4 p4] kk tpos) cls b := by
  intro a oe pn σ H s Q E I e q
  subst e
  refine wpAny_Tuple ?_
  refine wpAny_items_cons (ld_names n1 I ?_)
  refine wpAny_items_cons (ld_names n2 I ?_)
  refine wpAny_items_cons (ld_names n3 I ?_)
  refine wpAny_items_cons (ld_names n4 I ?_)
  refine wpAny_items_nil ⟨by size_fits, ?_⟩
  have kp : ∀ q o, s.heap.get? q = some o → (s.heap.push { cls := .type "tuple", data := .seq [c1, c2, c3, c4].toArray }).get? q = some o := fun _ _ z => Heap.get?_push_of_some _ z
  exact (PySem.W.exm_tup4 (I.kIn.keeps kp) ((suite_ty I).keeps kp) (Heap.get?_push_size s.heap rfl) he).here (q _ kp)
theorem tst_tup5 {x1 x2 x3 x4 x5 : Str} {c1 c2 c3 c4 c5 cls : Value} {p1 p2 p3 p4 p5 tpos : Pos} {kk : Nat} {b : Bool} (n1 : Names X x1 c1) (n2 : Names X x2 c2) (n3 : Names X x3 c3) (n4 : Names X x4 c4) (n5 : Names X x5 c5) (he : PySem.W.exmAny X.K cls [c1, c2, c3, c4, c5] = some b) :
    Tst X (.Tuple [.Name x1 p1, .Name x2 p2, .Name x3 p3, .Name x4 p4, .Name x5 p5] kk tpos) cls b := by
  intro a oe pn σ H s Q E I e q
  subst e
  refine wpAny_Tuple ?_
  refine wpAny_items_cons (ld_names n1 I ?_)
  refine wpAny_items_cons (ld_names n2 I ?_)
  refine wpAny_items_cons (ld_names n3 I ?_)
  refine wpAny_items_cons (ld_names n4 I ?_)
  refine wpAny_items_cons (ld_names n5 I ?_)
  refine wpAny_items_nil ⟨by size_fits, ?_⟩
  have kp : ∀ q o, s.heap.get? q = some o → (s.heap.push { cls := .type "tuple", data := .seq [c1, c2, c3, c4, c5].toArray }).get? q = some o := fun _ _ z => Heap.get?_push_of_some _ z
  exact (exm_tup5 (I.kIn.keeps kp) ((suite_ty I).keeps kp) (Heap.get?_push_size s.heap rfl) he).here (q _ kp)
end
/-! ### a caught exception that is tracked from now on -/
/-- at a stands an exception of the class cls, its own dict d -/
def ExV (cls : Value) (d : Option Addr) (a : Addr) : HO := .ext fun h => ∃ (oe : Obj) (vs : Array Value), h.get? a = some oe ∧ Zc cls d oe ∧ oe.data = .fields vs
theorem exV_ok {P : Program} {w : World} {H : Hp} {h : Heap} {a : Addr} {cls : Value} {d : Option Addr} {oe : Obj} {vs : Array Value} (e : h.get? a = some oe) (z : Zc cls d oe) (hd : oe.data = .fields vs) : ObjOk P w H h a (ExV cls d a) :=
  ⟨⟨oe, vs, e, z, hd⟩, ⟨oe, e⟩, fun _ _ ⟨o, v, q, r⟩ k => ⟨o, v, k o q, r⟩⟩
theorem flyZ_keeps {B h h' : Heap} {l : List Env} {e : Addr} {Z : Obj → Prop} (R : HandSPX.FlyingZ B l e Z h) (k : ∀ b o, h.get? b = some o → h'.get? b = some o) : HandSPX.FlyingZ B l e Z h' := by
  obtain ⟨f1, f2, f3, oe, ws, T, oT, ts, he, hz, hd, h1, hn, hne, hT, hdT, h3⟩ := R
  exact ⟨fun b o q => k b o (f1 b o q), f2, f3.of_keeps fun b o q _ => ⟨o, k b o q, rfl⟩, oe, ws, T, oT, ts, k _ _ he, hz, hd, h1, hn, hne, k _ _ hT, hdT, h3⟩
section
variable {X : Cx} {pins : List (Addr × Obj)} {σ : L2.St} {H : Hp} {s : Shared}
theorem Inv_track {a : Addr} {cls : Value} {d : Option Addr} {oe : Obj} {vs : Array Value} (I : Inv X pins σ H s) (h0 : X.s_0.heap.get? a = none) (na : H a = none) (he : s.heap.get? a = some oe) (hz : Zc cls d oe) (hd : oe.data = .fields vs) (nL : a ≠ X.env.locals) (nP : ∀ p ∈ X.pn ++ pins, p.1 ≠ a) :
    Inv X pins σ (upd H a (ExV cls d a)) s := by
  have nS : ∀ b u, H b = some u → b ≠ a := fun b u e => ne_of_none e na
  refine ⟨I.ok, I.os, I.bare, ⟨I.base.keep, I.base.slot, fun b o e n hx => ?_, I.base.there, fun b xs e => ?_, fun b o u e => ?_, fun b ps e => ?_⟩, I.loc, I.cell, ?_, fun x c e => ?_, fun p hp => ?_, fun b u e => ?_, I.len⟩
  · rw [upd_ne (fun z => by rw [z, h0] at e; cases e)]
    exact I.base.free b o e n hx
  · have q := I.base.tups b xs e
    rw [upd_ne (nS _ _ q)]
    exact q
  · have q := I.base.frzs b o u e
    rw [upd_ne (nS _ _ q)]
    exact q
  · obtain ⟨m, q⟩ := I.base.tbls b ps e
    exact ⟨m, by rw [upd_ne (nS _ _ q)]; exact q⟩
  · rw [upd_ne (Ne.symm nL)]
    exact I.free
  · obtain ⟨v, o, ho, hdc⟩ := I.cell x c e
    rw [upd_ne (fun z => by
      rw [z, he] at ho
      cases ho
      rw [hd] at hdc
      cases hdc)]
    exact I.freeC x c e
  · obtain ⟨e, n, ne, nf, dd⟩ := I.pin p hp
    exact ⟨e, by rw [upd_ne (nP p hp)]; exact n, ne, nf, dd⟩
  · by_cases hb : b = a
    · subst hb
      rw [upd_same] at e
      cases e
      exact exV_ok he hz hd
    · rw [upd_ne hb] at e
      exact (I.hok b u e).stay (fun c v _ q => q) (fun c q => by rw [upd_ne (nS _ _ q)]; exact q) fun c xs q => by rw [upd_ne (nS _ _ q)]; exact q
theorem Inv_suite0 {a : Addr} (I : Inv X pins σ H s) : Inv (X.suite a (X.pn ++ pins)) [] σ H s :=
  ⟨I.ok.suite _ _, I.os, I.bare, I.base, I.loc, I.cell, I.free, I.freeC, fun p hp => I.pin p (by rw [List.append_nil] at hp; exact hp), I.hok, I.len⟩
theorem Inv_unsuite0 {a : Addr} {pn' : List (Addr × Obj)} (I : Inv (X.suite a (X.pn ++ pins)) pn' σ H s) (ok : X.Ok) : Inv X pins σ H s :=
  ⟨ok, I.os, I.bare, I.base, I.loc, I.cell, I.free, I.freeC, fun p hp => I.pin p (List.mem_append_left _ hp), I.hok, I.len⟩
end
/-- the ends of a suite whose name's slot i is emptied behind it -/
def endsAs (i : Nat) (D : Ends) : Ends := { nx := fun σ' H' => D.nx (σ'.set i none) H', rt := D.rt, bk := fun σ' H' => D.bk (σ'.set i none) H', ct := fun σ' H' => D.ct (σ'.set i none) H' }
/-- what the clauses wish: each has its classes, its name's slot, its suite -/
def wKeep (K : PySem.W.Frag) (D : Ends) : List (List Value × Nat × (Addr → Value → Option Addr → TS)) → WX
  | [] => fun _ _ _ _ => False
  | (cs, i, ts) :: r => fun cls d σ H => ∃ b, PySem.W.exmAny K cls cs = some b ∧ (b = true → ∀ a, H a = none → ts a cls d (endsAs i D) (σ.set i (some (.ref a))) (upd H a (ExV cls d a))) ∧ (b = false → wKeep K D r cls d σ H)
inductive HdK (X : Cx) : List ExceptHandler → List (List Value × Nat × (Addr → Value → Option Addr → TS)) → Prop
  | nil : HdK X [] []
  | cons {t : Expr} {n : Str} {i : Nat} {cs : List Value} {ts : Addr → Value → Option Addr → TS} {b₀ : Stmt} {suite : List Stmt} {pos' : Pos} {hds : List ExceptHandler} {l : List (List Value × Nat × (Addr → Value → Option Addr → TS))}
      (ht : ∀ cls b, PySem.W.exmAny X.K cls cs = some b → Tst X t cls b) (hi : X.N[i]? = some n) (hln : X.env.kindOf n = some .local)
      (hsu : ∀ (a : Addr) (cls : Value) (d : Option Addr) (pn : List (Addr × Obj)), PSs (X.suite a pn) (b₀ :: suite) (ts a cls d)) (r : HdK X hds l) :
      HdK X (.ExceptHandler (some t) (some n) (b₀ :: suite) pos' :: hds) ((cs, i, ts) :: l)
section
variable {X : Cx} {body : List Stmt} {h₀ : ExceptHandler} {hds : List ExceptHandler} {l : List (List Value × Nat × (Addr → Value → Option Addr → TS))} {pos : Pos} {tb : WX → TS}
theorem ps_try_keep (hs : X.stack = X.env :: X.outer) (hf : X.env.frame = some X.env.locals) (hex : X.ex = []) (hN : X.N.Nodup)
    (hb : ∀ (W : WX) (pn : List (Addr × Obj)) (xe : Value → Shared → Prop), Takes (X.tr pn xe) W → PassesOwn (model X.prog X.w) X.A X.env xe → PSs (X.tr pn xe) body (tb W))
    (hh : HdK X (h₀ :: hds) l) : PS X (.Try body (h₀ :: hds) [] [] pos) (fun D σ H => tb (fun cls d σ' H' => σ'.length = X.N.length → wKeep X.K D l cls d σ' H') D σ H) := by
  refine ⟨fun pins s σ H D I h => ?_⟩
  have ok := I.ok
  have hfr : X.A.frames = some (X.env :: X.outer) := by rw [ok.frames, hs]
  refine wpAny_Try_except ?_
  refine wpAny_mono ((hb (fun cls d σ' H' => σ'.length = X.N.length → wKeep X.K D l cls d σ' H') (X.pn ++ pins) (fun e s₁ => wpAny (model X.prog X.w) X.A (noteFrame e X.env) (fun _ s₂ => wpAny (model X.prog X.w) X.A (setFlight e none) (fun _ s₃ =>
    wpAny (model X.prog X.w) X.A (handleBy e X.env (h₀ :: hds)) (SP X pins D) X.xe s₃) X.xe s₂) X.xe s₁) (fun u s' xx => ?_) PassesOwn.looking).run [] s σ H D (I.toTry _) h) (fun f s1 hsp => ?_) (fun e s1 he => he)
  · obtain ⟨a, B, sI, pins', σ', H', cls, d, rfl, J', nb, up, sky, na, os, ag, w⟩ := xx
    have J : Inv X pins σ' H' sI := J'.ofTry ok
    have sky' : Sky B (X.env :: X.outer) a (Zc cls d) X.env.locals s'.heap := by rw [← hs]; exact sky
    show wpAny (model X.prog X.w) X.A (noteFrame (.ref a) X.env) _ _ _
    refine Sky.land Zc.steady hfr hf sky' fun h3 fl3 up3 => ?_
    have notFr : ∀ {h : Heap} {o : Obj} {vs : Array Value}, h.FunFrames B (X.env :: X.outer) → h.get? a = some o → o.data = .fields vs → a ∉ frs (X.env :: X.outer) := fun {h o vs} ff e dd hm => by
      obtain ⟨_, o', e', hnf⟩ := ff.mem hm
      rw [e] at e'; cases e'
      exact hnf _ dd
    have nfr : a ∉ frs (X.env :: X.outer) := by
      obtain ⟨oe3, vs3, he3, hz3, hd3⟩ := fl3.there
      exact notFr fl3.2.2.1 he3 hd3
    have nL : a ≠ X.env.locals := fun z => nfr (List.mem_filterMap.mpr ⟨X.env, List.mem_cons_self, by rw [hf, z]⟩)
    have nF : a ∉ X.fs := fun hm => by
      obtain ⟨e, he, q⟩ := List.mem_filterMap.mp hm
      exact nfr (List.mem_filterMap.mpr ⟨e, List.mem_cons_of_mem _ he, q⟩)
    have nI : sI.heap.get? a = none := by
      cases e : sI.heap.get? a with
      | none => rfl
      | some o =>
        have z := nb a o e (by rw [hs]; exact nfr)
        rw [fl3.2.1] at z
        cases z
    have n0 : X.s_0.heap.get? a = none := by
      cases e : X.s_0.heap.get? a with
      | none => rfl
      | some o =>
        obtain ⟨o', z⟩ := J.base.there a o e (by rw [hex]; exact fun z => nomatch z)
        rw [nI] at z
        cases z
    have nP : ∀ p ∈ X.pn ++ pins, p.1 ≠ a := fun p hp z => by
      obtain ⟨e, _⟩ := J.pin p hp
      rw [z, nI] at e
      cases e
    have go : ∀ {hds' : List ExceptHandler} {l' : List (List Value × Nat × (Addr → Value → Option Addr → TS))}, HdK X hds' l' → wKeep X.K D l' cls d σ' H' → ∀ h3 : Heap, HandSPX.FlyingZ B (X.env :: X.outer) a (Zc cls d) h3 → sI.heap.UpToSlots h3 →
        wpAny (model X.prog X.w) X.A (handleBy (.ref a) X.env hds') (SP X pins D) X.xe { s' with heap := h3 } := by
      intro hds' l' hk
      induction hk with
      | nil =>
        intro w
        exact w.elim
      | @cons t n i cs ts b₀ suite pos' hds2 l2 ht hi hln hsu r ih =>
        intro w h3 fl3 up3
        obtain ⟨b, hb1, hyes, hno⟩ := w
        have J3 : Inv X pins σ' H' { s' with heap := h3 } := J.landed nb fl3.1 up3 os ag
        obtain ⟨oe3, vs3, he3, hz3, hd3⟩ := fl3.there
        have S3 := J3.suite he3 hd3 na nL nF
        refine wpAny_handleBy_cons (codeAny_handlers_test (ht cls b hb1 a oe3 _ _ _ _ _ _ S3 hz3.1 fun h4 kp => ?_)) (by intro q; cases q)
        have fl4 := flyZ_keeps fl3 kp
        have up4 : sI.heap.UpToSlots h4 := up3.trans (Heap.UpToSlots.of_keeps kp)
        cases b with
        | true =>
          refine codeAny_handlers_suite_as ?_
          refine HandSPX.lands_againZ (s := { s' with heap := h4 }) fl4 fun h5 fl5 up5 => ?_
          have J5 : Inv X pins σ' H' { s' with heap := h5 } := J.landed nb fl5.1 (up4.trans up5) os ag
          obtain ⟨oe5, vs5, he5, hz5, hd5⟩ := fl5.there
          have K5 : Inv X pins σ' (upd H' a (ExV cls d a)) { s' with heap := h5 } := Inv_track J5 n0 na he5 hz5 hd5 nL nP
          have S5 : Inv (X.suite a (X.pn ++ pins)) [] σ' (upd H' a (ExV cls d a)) { s' with heap := h5 } := Inv_suite0 K5
          refine store_ok (X := X.suite a (X.pn ++ pins)) (v := .ref a) S5 hN hi (.inl hln) rfl (fun s6 S6 => ?_) (.inr hln)
          refine wpAny_mono ((hsu a cls d (X.pn ++ pins)).run [] s6 _ _ _ S6 (hyes rfl a na)) (fun f s7 hsp => ?_) (fun _ _ z => False.elim z)
          have end_ : ∀ {σ6 : L2.St} {H6 : Hp} {Q : Shared → Prop}, Inv (X.suite a (X.pn ++ pins)) [] σ6 H6 s7 → (∀ s8, Inv X pins (σ6.set i none) H6 s8 → Q s8) →
              wpAny (model X.prog X.w) X.A (do bindName X.env n .none; unbindBehindTheSuite X.env n pos') (fun _ s8 => Q s8) X.xe s7 := fun {σ6 H6 Q} S6 hq => gone_ok (Inv_unsuite0 S6 ok) hN hi hln hq
          cases f with
          | next =>
            obtain ⟨σ6, H6, S6, q6⟩ := hsp
            exact end_ S6 fun s7 J7 => ⟨_, _, J7, q6⟩
          | brk =>
            obtain ⟨σ6, H6, S6, q6⟩ := hsp
            exact end_ S6 fun s7 J7 => ⟨_, _, J7, q6⟩
          | cont =>
            obtain ⟨σ6, H6, S6, q6⟩ := hsp
            exact end_ S6 fun s7 J7 => ⟨_, _, J7, q6⟩
          | ret u =>
            obtain ⟨v6, σ6, H6, S6, r6, q6⟩ := hsp
            exact end_ S6 fun s7 J7 => ⟨_, _, _, J7, r6, q6⟩
        | false =>
          show wpAny _ X.A (handleBy (.ref a) X.env hds2) _ _ _
          exact ih (hno rfl) h4 fl4 up4
    exact go hh (w J.len) h3 fl3 (up.trans up3)
  · cases f with
    | next =>
      obtain ⟨σ', H', J', q⟩ := hsp
      exact wpAny_execs_nil ⟨σ', H', J'.ofTry ok, q⟩
    | brk =>
      obtain ⟨σ', H', J', q⟩ := hsp
      exact ⟨σ', H', J'.ofTry ok, q⟩
    | cont =>
      obtain ⟨σ', H', J', q⟩ := hsp
      exact ⟨σ', H', J'.ofTry ok, q⟩
    | ret u =>
      obtain ⟨v, σ', H', J', r, q⟩ := hsp
      exact ⟨v, σ', H', J'.ofTry ok, r, q⟩
end
/-! ### isinstance of it -/
section
variable {X : Cx}
/-- isinstance(e, c), e a kept exception of an own class without fields -/
def rIsV (K : PySem.W.Frag) : List V → Hp → VK → Prop := fun xs H Q => ∃ (a D : Addr) (c : V) (cv : Value) (b : Bool), xs = [.ref a, c] ∧ H a = some (ExV (.ref D) none a) ∧ ExcC K D ∧ (∀ u, RelV c u → u = cv) ∧ PySem.W.kitOne K (.ref D) cv = some b ∧ Q (.bl b) H
theorem inst_of {pins : List (Addr × Obj)} {σ : L2.St} {H : Hp} {s : Shared} {a D : Addr} (I : Inv X pins σ H s) (h : H a = some (ExV (.ref D) none a)) : ∃ oe, PySem.W.InstAt s.heap a oe D none := by
  obtain ⟨⟨oe, vs, hget, hz, hv⟩, _, _⟩ := I.hok a _ h
  refine ⟨oe, ?_⟩
  obtain ⟨oc, od, oda, osl⟩ := oe
  obtain ⟨h1, h2⟩ := hz
  dsimp only at h1 h2 hv
  subst h1 h2 hv
  exact ⟨hget, rfl, rfl, trivial⟩
theorem call_isV : CallR X (.builtin "isinstance") (rIsV X.K) := by
  intro pins s σ H xs us Q I r h
  obtain ⟨a, D, c, cv, b, rfl, hH, C, hcv, e, q⟩ := h
  cases r with
  | cons rx rr =>
    cases rr with
    | cons rt rr =>
      cases rr
      cases rx
      have ec := hcv _ rt
      subst ec
      obtain ⟨oe, J⟩ := inst_of I hH
      exact PySem.W.kia_one (PySem.W.handS_kitx_exc C.hg C.hk C.hs C.hd C.ha C.hn C.ht C.hm) I.kIn J e (fun z => nomatch z) fun tk => ⟨.bl b, H, I.kept (t' := tk) fun _ _ z => z, rfl, q⟩
/-- xs.count(y), flat items -/
def rCount (K : PySem.W.Frag) : V → List V → Hp → VK → Prop := fun x xs H Q => ∃ (a : Addr) (ys : List V) (y : V), x = V.ref a ∧ xs = [y] ∧ SqL K H a ys ∧ flatV y = true ∧ ys.all flatV = true ∧ Q (.int ((ys.countP fun z => eqV z y : Nat) : Int)) H
theorem count_eqU {y : V} : ∀ {xs : List V} {us : List Value}, Vals xs us → xs.all flatV = true → us.countP (eqU y) = xs.countP fun z => eqV z y
  | _, _, .nil, _ => rfl
  | x :: xs, u :: us, .cons r t, f => by
    rw [List.all_cons, Bool.and_eq_true] at f
    rw [List.countP_cons, List.countP_cons, eqU_of r f.1, count_eqU t f.2]
theorem mt_count : MtR X "list.count" (rCount X.K) := by
  intro pins s σ H x xs v us Q I rx rxs h
  obtain ⟨a, ys, y, rfl, rfl, hs, fy, fys, q⟩ := h
  cases rx
  cases rxs with
  | cons ry rt =>
    rename_i uy ut
    cases rt
    obtain ⟨its, rv, ⟨⟨cls, dd, data, sl⟩, n, ho, hc, hdn, hd⟩, hlen⟩ := I.list hs
    simp only at hc hd
    subst hc hd
    refine call_meets PySem.F.slot_list_count ⟨_, ho, rfl⟩ PySem.F.entry_list_count (PySem.F.args_list_count_2 _ _)
      (SeqAt.list_countAt a its.toArray n dd sl uy (eqU y)) ⟨ho, fun u' hu' => mem_eqAt ry fy rv fys u' (by simpa using hu'), ?_⟩
    have ec : its.toArray.toList.countP (eqU y) = ys.countP fun z => eqV z y := count_eqU rv fys
    refine ⟨.int ((ys.countP fun z => eqV z y : Nat) : Int), H, I.tok _, ⟨s.toks, ?_⟩, q⟩
    rw [ec]
end
end TCX
/-! Defs that ask repr of lists and tuples: the guards of the calls around are told. -/
namespace TCX
open PySem PySem.Spec PyProof.Rows L2
/-- FnOk where no repr is under way -/
structure FnG (P : Program) (w : World) (K : PySem.W.Frag) (mg : Str → Option Value) (base : Heap) (CX : CXT) (k : Nat) (f : Addr) (fd : FuncData) (ps : List Str) (sp : Sp) : Prop where
  glen : ∀ vs H Q E, sp vs H Q E → vs.length = ps.length
  grun : ∀ (A : Around) (outer : List Env) (s : Shared) (H : Hp) (args : Args) (us : List Value) (vs : List V) (Q : VK) (E : XK), A.guards = some [] → Room k A → Env0 P w K mg base A outer s H → BindsTo s fd args (ps.zip us) → Vals vs us → sp vs H Q E →
    codeAny (model P w) A (.call (.ref f) args) (CR CX outer P w H s Q E) s
section
variable {P : Program} {w : World} {K : PySem.W.Frag} {mg : Str → Option Value} {base : Heap} {x qual : Str} {params : Arguments} {body : List Stmt} {scope : Scope} {dvs : List V} {kws : List (Str × V)} {f : Addr} {fd : FuncData} {CX : CXT} {N ps : List Str} {k : Nat} {sp : Sp}
theorem okG (F : FunD K x qual params body scope dvs kws f fd) (S : FnScope N ps scope) (len : ∀ vs H Q E, sp vs H Q E → vs.length = ps.length)
    (hbody : ∀ (cdv : Value) (A : Around) (outer : List Env) (s : Shared) (H : Hp) (vs : List V) (Q : VK) (E : XK), A.guards = some [] → Room k (A.deeper (envOfC qual scope s.heap.objs.size f cdv)) → sp vs H Q E →
      ∃ t, PSs (cxOf CX P w K mg base N qual scope f cdv A outer s H E) body t ∧ t { nx := fun _ H' => Q .non H', rt := Q } (L2.start N vs) H) : FnG P w K mg base CX (k + 1) f fd ps sp := by
  obtain ⟨oc, od, dV, kV, doc, pm, an, cdv, ct, osl, rfl, lk, hcd, _, _⟩ := F.ex
  exact ⟨len, fun A outer s H args us vs Q E hg hr e0 hb r hsp => LamX.run_ofS lk hcd S hr e0 hb r (len _ _ _ _ hsp) fun hr' => hbody cdv A outer s H vs Q E hg hr' hsp⟩
end
section
variable {X : Cx} {CX : CXT} {k : Nat} {f : Addr} {fd : FuncData} {ps : List Str} {sp : Sp} {E : XK} {x : Str} {p pos : Pos} {e : Expr} {es : List Expr} {t : TA} {dvs : List V} {ds : List Value}
/-- f(e, ..) of such a def -/
theorem pe_callG (F : FnG X.prog X.w X.K X.mg X.base CX k f fd ps sp) (hG : X.A.guards = some []) (hr : Room k X.A) (hg : Gl X x) (hm : X.mg x = some (.ref f)) (hk : PySem.W.keepIn X.K (.ref f) = true) (hb : L2.Binds X.K fd ps ds) (hd : Vals dvs ds) (hx : Passes CX X E)
    (ha : PA X (e :: es) t) (hdb : (x == ("__debug__" : Str)) = false := by decide) (he : starEach (e :: es) X.env = (false, eval e X.env) :: starEach es X.env := by rfl) (hpl : (backTo pos (starEach es X.env)).any (·.1) = false := by rfl) :
    PE X (.Call (.Name x p) (e :: es) [] pos) (tCall sp dvs E t) := by
  refine ⟨fun pins s σ H Q I h => wpAny_Call_Name_kw (ld_glob I hg hm ?_ hdb)⟩
  refine PySem.W.callWith_K (h₀ := X.base) I.ok.mod.kin hk (thn (ha.run pos pins s σ H _ I h) fun us s1 z => ?_) he hpl
  obtain ⟨vs, H1, I1, r, q⟩ := z
  refine ⟨I1.kIn, wpAny_call (codeAny_mono (F.grun X.A X.stack s1 H1 ⟨us, []⟩ (us ++ ds) (vs ++ dvs) Q E hG hr I1.env0 (hb s1 us I1.kIn ?_) (r.append hd) q) fun y s' hq => ?_)⟩
  · rw [← (r.append hd).length]
    exact F.glen _ _ _ _ q
  · match y, hq with
    | .error u, hq => exact hx pins σ H1 s1 u s' I1 hq
    | .ok (.ret u), hq => exact I1.after hq
    | .ok .next, hq => exact False.elim hq
    | .ok .brk, hq => exact False.elim hq
    | .ok .cont, hq => exact False.elim hq
/-- repr(x) of lists and tuples of data -/
theorem call_reprD (hG : X.A.guards = some []) (hu : X.A.units + 64 < cLine) : CallR X (.builtin "repr") (fun xs H Q => ∃ (a : Addr) (d : PyData), xs = [.ref a] ∧ Dp X.K H (.ref a) d ∧ d.showable = true ∧ d.hasDict = false ∧ d.depth ≤ 60 ∧ d.shown.length ≤ sizeLine ∧ Q (.str d.shown) H) := by
  intro pins s σ H xs us Q I r h
  obtain ⟨a, d, rfl, hd, hs, hn, hdp, hz, q⟩ := h
  rw [Vals.ref1 r]
  obtain ⟨as, hr⟩ := Dp.reads I d (.ref a) (.ref a) hd rfl
  exact repr_of_reads' hr hs (fun z => by rw [hn] at z; cases z) hG (by omega) (fun _ _ z => z) (fun h' u tk hk => ⟨.str d.shown, H, I.kept (t' := tk) hk, ⟨u, rfl⟩, q⟩) hz
theorem call_reprB : CallR X (.builtin "repr") (fun xs H Q => ∃ b : Bool, xs = [.bl b] ∧ Q (.str (if b then "True" else "False")) H) := by
  intro pins s σ H xs us Q I r h
  obtain ⟨b, rfl, q⟩ := h
  obtain ⟨u, rfl, rfl⟩ := vals1 r
  exact P.repr_of_bool ⟨.str (if b then "True" else "False"), H, I.tok _, ⟨_, rfl⟩, q⟩
end
/-! ### list(range(a, b, 2)) -/
theorem size2 {a b : Int} {n : Nat} (h : a < b) (hn : (b - a - 1) / 2 + 1 = n) : Builtin.Range.rangeSize a b 2 = n := by
  unfold Builtin.Range.rangeSize
  rw [if_pos (by decide), if_pos h, hn]
theorem size2_0 {a b : Int} (h : ¬ a < b) : Builtin.Range.rangeSize a b 2 = (0 : Nat) := by
  unfold Builtin.Range.rangeSize
  rw [if_pos (by decide), if_neg h]
  rfl
theorem small2 {a b : Int} (ha : -100000 ≤ a) (ha' : a < 100000) (hb : -100000 ≤ b) (hb' : b < 100000) : Builtin.Range.small a b 2 = true := by
  unfold Builtin.Range.small
  by_cases h : a < b
  · rw [size2 (n := ((b - a - 1) / 2 + 1).toNat) h (by omega)]
    simp only [Builtin.Range.rangeFitsLong, Bool.and_eq_true, Bool.or_eq_true, decide_eq_true_eq, beq_iff_eq, show (2 : Int) > 0 by decide, if_true]
    omega
  · rw [size2_0 h]
    simp only [Builtin.Range.rangeFitsLong, Bool.and_eq_true, Bool.or_eq_true, decide_eq_true_eq, beq_iff_eq, show (2 : Int) > 0 by decide, if_true]
    omega
/-- a, a + 2, .. : n of them -/
def upV (a : Int) (n : Nat) : List V := (List.range n).map fun i => V.int (a + (i : Nat) * 2)
theorem upV_length (a : Int) (n : Nat) : (upV a n).length = n := by rw [upV, List.length_map, List.length_range]
section
variable {X : Cx} {a b : Expr} {ta : TA}
def tLst2 (ta : TA) : TE := fun σ H Q => ta σ H fun vs H1 => ∃ (i j : Int) (n : Nat), vs = [.int i, .int j, .int 2] ∧ -100000 ≤ i ∧ i < 100000 ∧ -100000 ≤ j ∧ j < 100000 ∧ Builtin.Range.rangeSize i j 2 = n ∧ ∀ q, H1 q = none → Q (.ref q) (upd H1 q (.lst (upV i n)))
theorem pe_list2 {c : Expr} {p pos p2 pos2 : Pos} (hc : X.calm = true) (hgl : Gl X "list") (hml : X.mg "list" = none) (hgr : Gl X "range") (hmr : X.mg "range" = none) (ha : PA X [a, b, c] ta)
    (hs : starEach [a, b, c] X.env = (false, eval a X.env) :: starEach [b, c] X.env := by rfl) (hpl : (backTo pos2 (starEach [b, c] X.env)).any (·.1) = false := by rfl)
    (hs2 : starEach [Expr.Call (.Name "range" p2) [a, b, c] [] pos2] X.env = (false, eval (.Call (.Name "range" p2) [a, b, c] [] pos2) X.env) :: starEach [] X.env := by rfl) :
    PE X (.Call (.Name "list" p) [.Call (.Name "range" p2) [a, b, c] [] pos2] [] pos) (tLst2 ta) := by
  refine ⟨fun pins s σ H Q I h => ?_⟩
  refine Call_ (ld_blt I hgl hml boot_list (PyProof.Rows.callWith_type1 (args_cons ?_ hs2) hs2))
  refine Call_ (ld_blt I hgr hmr boot_range (PyProof.Rows.callWith_type1 (thn (ha.run pos2 pins s σ H _ I h) fun us s1 z => ?_) hs hpl))
  obtain ⟨vs, H1, I1, r1, i, j, n, rfl, i1, i2, j1, j2, hn, q⟩ := z
  match us, r1 with
  | [_, _, _], .cons ⟨t, rfl⟩ (.cons ⟨t', rfl⟩ (.cons ⟨t'', rfl⟩ .nil)) =>
    refine call_range_3 (by decide) (args_nil ?_) (Or.inl (PyProof.noPylong_of_log2 (by decide +kernel)))
    have I2 : Inv X pins σ H1 { s1 with heap := s1.heap.push { cls := .type "range", data := .fields #[.int i t, .int j t', .int 2 t''] } } := I1.kept (t' := s1.toks) fun b u e => Heap.get?_push_of_some _ e
    have nle : n ≤ 2 ^ 24 := by
      unfold Builtin.Range.rangeSize at hn
      rw [if_pos (by decide)] at hn
      by_cases z : i < j
      · rw [if_pos z] at hn
        omega
      · rw [if_neg z] at hn
        omega
    refine call_list_range (n := n) (I2.ok.hd hc) (IsRange.new _ _ _ _ _ _ _) (small2 i1 i2 j1 j2) hn nle fun h' tk acc c' hk e' hi => ?_
    have hv : Vals (upV i n) acc.toList := by
      have e : acc.toList.length = n := by rw [Array.length_toList]; exact hi.1
      rw [upV, ← e]
      refine vals_of_get acc.toList _ fun k u hj => ?_
      obtain ⟨y, rfl⟩ := hi.2 k u (by rw [← hj, Array.getElem?_toList])
      exact ⟨y, rfl⟩
    refine ⟨.ref _, upd H1 _ (.lst (upV i n)), I2.laid hk (Nat.le_refl _) (show ObjOk X.prog X.w _ _ _ (.lst (upV i n)) from ⟨?_, acc.toList, c', hv, ?_⟩), rfl, q _ (I2.hok.fresh (Nat.le_refl _))⟩
    · rw [upV_length, sizeLine_eq]
      omega
    · rw [Array.toArray_toList]
      exact e'
end
end TCX
/-! What the head tells of the program's exception classes. -/
namespace TCX
open PySem PySem.Spec PyProof.Rows L2
/-- what isinstance asks of the class at D -/
def excB (K : PySem.W.Frag) (D : Addr) : Bool :=
  He.eqO (PySem.W.findIn K (.ref D) "__getattribute__") (some (some (.builtin "BaseException.__getattribute__"))) && (He.eqO (PySem.W.findIn K (.ref D) "__getattr__") (some none) && (decide (PySem.W.subIn K (.ref D) (.type "BaseException") = some true) &&
    (PySem.W.hasDictIn K D && (He.eqO (PySem.W.findIn K (.ref D) "__class__") (some (some (.builtin "object.__class__"))) && (He.eqO (PySem.W.specialIn K (.builtin "object.__class__") "__get__") (some (some (.builtin "getset_descriptor.__get__"))) &&
      (decide (PySem.W.takesIn K (.builtin "object.__class__") = some true) && decide (PySem.W.mroIn K D (.type "object") = some true)))))))
theorem excB_ok {K : PySem.W.Frag} {D : Addr} (h : excB K D = true) : ExcC K D := by
  obtain ⟨h1, h⟩ := He.ba h
  obtain ⟨h2, h⟩ := He.ba h
  obtain ⟨h3, h⟩ := He.ba h
  obtain ⟨h4, h⟩ := He.ba h
  obtain ⟨h5, h⟩ := He.ba h
  obtain ⟨h6, h⟩ := He.ba h
  obtain ⟨h7, h8⟩ := He.ba h
  exact ⟨He.eqO_ok h1, He.eqO_ok h2, of_decide_eq_true h3, h4, He.eqO_ok h5, He.eqO_ok h6, of_decide_eq_true h7, of_decide_eq_true h8⟩
/-- the classes in the order in which _law_word asks for them -/
def clsN : List Str := (["Empty", "NoDeed", "NoHalf", "NoLinking", "NoNet", "NoNumber", "NoOffset", "NoQuestion", "NoRow", "NoSize", "NoStanding"] : List Str) ++ (["NoTable", "NoText", "NotParted", "NoTree", "NoTriple", "NoWay", "TooWide", "ByNought", "NoName", "NoPlace", "NothingDone"] : List Str)
def words : List Str := (["empty", "deed", "half", "linking", "net", "number", "offset", "question", "row", "size", "standing"] : List Str) ++ (["table", "text", "parted", "tree", "triple", "way", "wide", "nought", "name", "place", "done"] : List Str)
/-- of the 22 classes the at-th one alone is D's -/
def Kits (K : PySem.W.Frag) (D : Addr) (at_ : Nat) : Prop := clsN.map (fun x => PySem.W.kitOne K (.ref D) (.ref (He.ga K x))) = (List.range 22).map fun i => some (i == at_)
instance {K : PySem.W.Frag} {D : Addr} {n : Nat} : Decidable (Kits K D n) := inferInstanceAs (Decidable (_ = _))
theorem Kits.at {K : PySem.W.Frag} {D : Addr} {n : Nat} (h : Kits K D n) (i : Nat) {x : Str} (hx : clsN[i]? = some x) : PySem.W.kitOne K (.ref D) (.ref (He.ga K x)) = some (i == n) := by
  have e := congrArg (fun l : List (Option Bool) => l[i]?) h
  have hi : i < 22 := by
    obtain ⟨z, _⟩ := List.getElem?_eq_some_iff.mp hx
    exact Nat.lt_of_lt_of_eq z rfl
  simp only [List.getElem?_map, hx, Option.map_some] at e
  rw [List.getElem?_range hi] at e
  exact Option.some.inj e
structure Kind (K : PySem.W.Frag) (D : Addr) (n : Nat) : Prop where
  ec : ExcC K D
  kits : Kits K D n
  te : PySem.W.kitOne K (.ref D) (.ref (He.ga K "TurnError")) = some (decide (n < 18))
  ve : PySem.W.kitOne K (.ref D) (.type "ValueError") = some (decide (n < 18))
def excAll (K : PySem.W.Frag) (x : Str) (n : Nat) : Bool := excB K (He.ga K x) && (decide (Kits K (He.ga K x) n) && (decide (PySem.W.kitOne K (.ref (He.ga K x)) (.ref (He.ga K "TurnError")) = some (decide (n < 18))) && (decide (PySem.W.kitOne K (.ref (He.ga K x)) (.type "ValueError") = some (decide (n < 18))) &&
  decide (PySem.W.exmAny K (.ref (He.ga K x)) [.ref (He.ga K "TurnError")] = some (decide (n < 18))))))
theorem excAll_ok {K : PySem.W.Frag} {x : Str} {n : Nat} (h : excAll K x n = true) : Kind K (He.ga K x) n ∧ PySem.W.exmAny K (.ref (He.ga K x)) [.ref (He.ga K "TurnError")] = some (decide (n < 18)) := by
  obtain ⟨h1, h⟩ := He.ba h
  obtain ⟨h2, h⟩ := He.ba h
  obtain ⟨h3, h⟩ := He.ba h
  obtain ⟨h4, h5⟩ := He.ba h
  exact ⟨⟨excB_ok h1, of_decide_eq_true h2, of_decide_eq_true h3, of_decide_eq_true h4⟩, of_decide_eq_true h5⟩
/-- as Kind, of all the classes -/
structure KindF (K : PySem.W.Frag) (D : Addr) (n : Nat) : Prop where
  ec : ExcC K D
  kits : Kits K D n
  te : PySem.W.kitOne K (.ref D) (.ref (He.ga K "TurnError")) = some (decide (n < 18))
  ve : PySem.W.kitOne K (.ref D) (.type "ValueError") = some (decide (n < 18))
  kz : PySem.W.kitOne K (.ref D) (.type "ZeroDivisionError") = some (n == 18)
  ky : PySem.W.kitOne K (.ref D) (.type "KeyError") = some (n == 19)
  ki : PySem.W.kitOne K (.ref D) (.type "IndexError") = some (n == 20)
  kl : PySem.W.kitOne K (.ref D) (.type "LookupError") = some (decide (19 ≤ n))
  kt : PySem.W.kitAny K (.ref D) [.type "KeyError", .type "IndexError"] = some (n == 19 || n == 20)
  x5 : PySem.W.exmAny K (.ref D) [.ref (He.ga K "TurnError"), .ref (He.ga K "ByNought"), .ref (He.ga K "NoName"), .ref (He.ga K "NoPlace"), .ref (He.ga K "NothingDone")] = some true
def excAllF (K : PySem.W.Frag) (x : Str) (n : Nat) : Bool := excB K (He.ga K x) && (decide (Kits K (He.ga K x) n) && (decide (PySem.W.kitOne K (.ref (He.ga K x)) (.ref (He.ga K "TurnError")) = some (decide (n < 18))) && (decide (PySem.W.kitOne K (.ref (He.ga K x)) (.type "ValueError") = some (decide (n < 18))) &&
  (decide (PySem.W.kitOne K (.ref (He.ga K x)) (.type "ZeroDivisionError") = some (n == 18)) && (decide (PySem.W.kitOne K (.ref (He.ga K x)) (.type "KeyError") = some (n == 19)) && (decide (PySem.W.kitOne K (.ref (He.ga K x)) (.type "IndexError") = some (n == 20)) && (decide (PySem.W.kitOne K (.ref (He.ga K x)) (.type "LookupError") = some (decide (19 ≤ n))) &&
  (decide (PySem.W.kitAny K (.ref (He.ga K x)) [.type "KeyError", .type "IndexError"] = some (n == 19 || n == 20)) && decide (PySem.W.exmAny K (.ref (He.ga K x)) [.ref (He.ga K "TurnError"), .ref (He.ga K "ByNought"), .ref (He.ga K "NoName"), .ref (He.ga K "NoPlace"), .ref (He.ga K "NothingDone")] = some true)))))))))
theorem excAllF_ok {K : PySem.W.Frag} {x : Str} {n : Nat} (h : excAllF K x n = true) : KindF K (He.ga K x) n := by
  obtain ⟨h1, h⟩ := He.ba h
  obtain ⟨h2, h⟩ := He.ba h
  obtain ⟨h3, h⟩ := He.ba h
  obtain ⟨h4, h⟩ := He.ba h
  obtain ⟨h5, h⟩ := He.ba h
  obtain ⟨h6, h⟩ := He.ba h
  obtain ⟨h7, h⟩ := He.ba h
  obtain ⟨h8, h⟩ := He.ba h
  obtain ⟨h9, ha⟩ := He.ba h
  exact ⟨excB_ok h1, of_decide_eq_true h2, of_decide_eq_true h3, of_decide_eq_true h4, of_decide_eq_true h5, of_decide_eq_true h6, of_decide_eq_true h7, of_decide_eq_true h8, of_decide_eq_true h9, of_decide_eq_true ha⟩
/-- an own class over ZeroDivisionError -/
def zBase : List Value := [.type "ZeroDivisionError", .type "ArithmeticError", .type "Exception", .type "BaseException", .type "object"]
def excZ (K : PySem.W.Frag) (x : Str) : Bool := PySem.W.excIn K (He.ga K x) zBase "ZeroDivisionError.__new__" && (PySem.W.keepIn K (.ref (He.ga K x)) && (decide (PySem.W.subIn K (.ref (He.ga K x)) (.type "BaseException") = some true) && decide (PySem.W.typeIn K (.ref (He.ga K x)) = some (.type "type"))))
theorem excZ_ok {K : PySem.W.Frag} {x : Str} (h : excZ K x = true) : PySem.W.excIn K (He.ga K x) zBase "ZeroDivisionError.__new__" = true ∧ PySem.W.keepIn K (.ref (He.ga K x)) = true ∧ PySem.W.subIn K (.ref (He.ga K x)) (.type "BaseException") = some true ∧ PySem.W.typeIn K (.ref (He.ga K x)) = some (.type "type") := by
  obtain ⟨h1, h⟩ := He.ba h
  obtain ⟨h2, h⟩ := He.ba h
  obtain ⟨h3, h4⟩ := He.ba h
  exact ⟨h1, h2, of_decide_eq_true h3, of_decide_eq_true h4⟩
end TCX
namespace TCX
open PySem PySem.Spec PyProof.Rows L2
/-- an own class over IndexError -/
def iBase : List Value := [.type "IndexError", .type "LookupError", .type "Exception", .type "BaseException", .type "object"]
def excI (K : PySem.W.Frag) (x : Str) : Bool := PySem.W.excIn K (He.ga K x) iBase "IndexError.__new__" && (PySem.W.keepIn K (.ref (He.ga K x)) && (decide (PySem.W.subIn K (.ref (He.ga K x)) (.type "BaseException") = some true) && decide (PySem.W.typeIn K (.ref (He.ga K x)) = some (.type "type"))))
theorem excI_ok {K : PySem.W.Frag} {x : Str} (h : excI K x = true) : PySem.W.excIn K (He.ga K x) iBase "IndexError.__new__" = true ∧ PySem.W.keepIn K (.ref (He.ga K x)) = true ∧ PySem.W.subIn K (.ref (He.ga K x)) (.type "BaseException") = some true ∧ PySem.W.typeIn K (.ref (He.ga K x)) = some (.type "type") := by
  obtain ⟨h1, h⟩ := He.ba h
  obtain ⟨h2, h⟩ := He.ba h
  obtain ⟨h3, h4⟩ := He.ba h
  exact ⟨h1, h2, of_decide_eq_true h3, of_decide_eq_true h4⟩
end TCX
namespace TC
open PySem PySem.Spec PyProof.Rows L2 TCX
/-! the text by places -/
def top (i : Nat) : Stmt := PySem.Challenge.pw_turncouple_k39_places_of_labels.main.body.getD i (.Pass ⟨0, 0, 0, 0⟩)
abbrev sWhole : Stmt := top 25
abbrev sLabelAt : Stmt := top 30
abbrev sPlaceOf : Stmt := top 31
abbrev sNeedRow : Stmt := top 32
abbrev sEnds : Stmt := top 33
abbrev sWays : Stmt := top 34
abbrev sPen : Stmt := top 36
abbrev sDraw : Stmt := top 37
abbrev sRow : Stmt := top 38
abbrev sJoints : Stmt := top 39
abbrev sCounts : Stmt := top 40
abbrev sAfter : Stmt := top 41
abbrev sIsLabel : Stmt := top 42
abbrev sRank : Stmt := top 43
abbrev sWord : Stmt := top 44
abbrev sKind : Stmt := top 45
abbrev sBadRow : Stmt := top 46
abbrev sBadLabel : Stmt := top 47
abbrev sLaw : Stmt := top 48
abbrev FnP (K : PySem.W.Frag) (x : Str) (st : Stmt) (f : Addr) (fd : FuncData) : Prop := FunD K x x (defArgs st) (defBody st) (defScope st) [] [] f fd
def dd (x : Str) (st : Stmt) : He.DefD := ⟨(x, none), x, x, defArgs st, defBody st, defScope st, [], []⟩
def fn : List He.DefD := ([dd "is_whole" sWhole, dd "label_at" sLabelAt, dd "place_of" sPlaceOf, dd "need_row" sNeedRow, dd "ends_of" sEnds, dd "ways_to" sWays, dd "_law_pen" sPen, dd "_law_draw" sDraw, dd "_law_row" sRow, dd "_law_joints" sJoints, dd "_law_counts" sCounts, dd "_law_after" sAfter, dd "_law_is_label" sIsLabel, dd "_law_rank" sRank, dd "_law_word" sWord, dd "_law_kind" sKind] : List He.DefD) ++ ([dd "_law_bad_row" sBadRow, dd "_law_bad_label" sBadLabel, dd "law" sLaw] : List He.DefD)
def fa : List He.Fa := ([.glo "TurnError", .glo "NoNumber", .glo "NoSize", .glo "NoOffset", .glo "NoTriple", .glo "NoTable", .glo "TooWide", .glo "NoNet", .glo "NoRow", .glo "NoStanding", .glo "NoTree", .glo "NoWay", .glo "NoHalf", .glo "NoLinking", .glo "NoDeed", .glo "NoQuestion"] : List He.Fa) ++ ([.glo "Empty", .glo "NotParted", .glo "NoText", .glo "NoName", .glo "NoPlace", .glo "ByNought", .glo "NothingDone", .glo "is_whole", .glo "label_at", .glo "place_of", .glo "need_row", .glo "ends_of", .glo "ways_to", .glo "_law_pen", .glo "_law_draw", .glo "_law_row"] : List He.Fa) ++ ([.glo "_law_joints", .glo "_law_counts", .glo "_law_after", .glo "_law_is_label", .glo "_law_rank", .glo "_law_word", .glo "_law_kind", .glo "_law_bad_row", .glo "_law_bad_label", .glo "law", .int "MOST_OF_ROW" 10, .int "HIGHEST_OF_ROW" 12, .int "HIGHEST_END" 120, .exc "NoRow", .exc "NoSize", .free "isinstance"] : List He.Fa) ++ ([.free "int", .free "bool", .free "abs", .free "list", .free "range", .free "len", .free "ValueError", .free "ZeroDivisionError", .free "KeyError", .free "IndexError", .free "LookupError", .free "sum", .free "sorted", .free "tuple", .free "enumerate", .free "zip"] : List He.Fa)
def exB (K : PySem.W.Frag) : Bool := excAllF K "NoRow" 8 && (excAllF K "NoSize" 9 && (excAllF K "NoPlace" 20 && (excI K "NoPlace" && (decide (PySem.W.exmAny K (.ref (He.ga K "NoRow")) [.ref (He.ga K "TurnError"), .ref (He.ga K "NoPlace")] = some true) && (decide (PySem.W.exmAny K (.ref (He.ga K "NoSize")) [.ref (He.ga K "TurnError"), .ref (He.ga K "NoPlace")] = some true) && decide (PySem.W.exmAny K (.ref (He.ga K "NoPlace")) [.ref (He.ga K "TurnError"), .ref (He.ga K "NoPlace")] = some true))))))
def tf : List He.Defn := [("law", none)]
def hk : PySem.W.Hook := He.hookX 5 fa fn [] tf exB
abbrev R : PySem.W.OpenRow := PySem.W.OpenLaw.row PySem.Challenge.rw_turncouple_k39_places_of_labels
def ob (s : PySem.W.SharedT) : He.AlX := He.obsX 5 fa fn [] tf exB (HandSHeadRun.getT s)
theorem ob_eq (s : PySem.W.SharedT) : ob s = hk.obs s.abs := He.obsX_eq (s := s.abs) (HandSHeadRun.getT_eq s)
def loose : List PySem.Str := (["TurnError", "NoNumber", "NoSize", "NoOffset", "NoTriple", "NoTable", "TooWide", "NoNet", "NoRow", "NoStanding", "NoTree", "NoWay", "NoHalf", "NoLinking", "NoDeed", "NoQuestion"] : List PySem.Str) ++ (["Empty", "NotParted", "NoText", "NoName", "NoPlace", "ByNought", "NothingDone", "is_whole", "MOST_OF_ROW", "HIGHEST_OF_ROW", "HIGHEST_END", "label_at", "place_of", "need_row", "ends_of", "ways_to"] : List PySem.Str) ++ (["_law_pen", "_law_draw", "_law_row", "_law_joints", "_law_counts", "_law_after", "_law_is_label", "_law_rank", "_law_word", "_law_kind", "_law_bad_row", "_law_bad_label"] : List PySem.Str)
end TC
/-! The mathematics, in plain Lean. -/
namespace TCM
/-! ### the greatest common divisor, by steps with Python's remainder -/
theorem gcd_fmod (a b : Int) : Int.gcd b (a.fmod b) = Int.gcd a b := by
  have e : a.fmod b = a - b * a.fdiv b := by
    have := Int.fmod_add_mul_fdiv a b
    omega
  rw [e, Int.gcd_comm a b]
  apply Nat.dvd_antisymm
  · refine Int.dvd_gcd (Int.gcd_dvd_left ..) ?_
    have h1 : ((Int.gcd b (a - b * a.fdiv b) : Nat) : Int) ∣ b := Int.gcd_dvd_left ..
    have h2 : ((Int.gcd b (a - b * a.fdiv b) : Nat) : Int) ∣ a - b * a.fdiv b := Int.gcd_dvd_right ..
    have h3 := Int.dvd_add h2 (Int.dvd_mul_of_dvd_left (c := a.fdiv b) h1)
    have e2 : a - b * a.fdiv b + b * a.fdiv b = a := by omega
    rw [e2] at h3
    exact h3
  · refine Int.dvd_gcd (Int.gcd_dvd_left ..) ?_
    have h1 : ((Int.gcd b a : Nat) : Int) ∣ b := Int.gcd_dvd_left ..
    have h2 : ((Int.gcd b a : Nat) : Int) ∣ a := Int.gcd_dvd_right ..
    exact Int.dvd_sub h2 (Int.dvd_mul_of_dvd_left (c := a.fdiv b) h1)
theorem fmod_lt (a b : Int) (h : b ≠ 0) : (a.fmod b).natAbs < b.natAbs := by
  rcases Int.lt_or_gt_of_ne h with hb | hb
  · have h1 : a.fmod b = a % b + if 0 ≤ b ∨ b ∣ a then 0 else b := Int.fmod_eq_emod
    have := Int.emod_nonneg a h
    have := Int.emod_lt_of_pos a (b := -b) (by omega)
    rw [Int.emod_neg] at this
    rw [h1]
    split
    · omega
    · rename_i z
      have : a % b ≠ 0 := fun e => z (.inr (Int.dvd_of_emod_eq_zero e))
      omega
  · have h1 := Int.fmod_nonneg_of_pos a hb
    have h2 := Int.fmod_lt_of_pos a hb
    omega
theorem abs_eq (i : Int) : (if i < 0 then -i else i) = ((i.natAbs : Nat) : Int) := by
  split <;> omega
/-! ### a fraction in lowest terms -/
def sgn (t b : Int) : Int := if b < 0 then -((Int.gcd t b : Nat) : Int) else ((Int.gcd t b : Nat) : Int)
def low (t b : Int) : Int × Int := (t.fdiv (sgn t b), b.fdiv (sgn t b))
/-- as the law says it -/
def lowL (t b : Int) : Int × Int := if 0 < b then (t.fdiv ((Int.gcd t b : Nat) : Int), b.fdiv ((Int.gcd t b : Nat) : Int)) else ((-t).fdiv ((Int.gcd t b : Nat) : Int), (-b).fdiv ((Int.gcd t b : Nat) : Int))
theorem low_eq (t b : Int) (h : b ≠ 0) : low t b = lowL t b := by
  unfold low lowL sgn
  by_cases hb : b < 0
  · rw [if_pos hb, if_neg (by omega)]
    have e1 := Int.neg_fdiv_neg (-t) ((Int.gcd t b : Nat) : Int)
    have e2 := Int.neg_fdiv_neg (-b) ((Int.gcd t b : Nat) : Int)
    rw [Int.neg_neg] at e1 e2
    rw [e1, e2]
  · rw [if_neg hb, if_pos (by omega)]
theorem gcd_pos (t b : Int) (h : b ≠ 0) : 0 < Int.gcd t b := by
  have : Int.gcd t b ≠ 0 := fun e => h (Int.gcd_eq_zero_iff.mp e).2
  omega
theorem gcd_le (t b : Int) (h : b ≠ 0) : Int.gcd t b ≤ b.natAbs := by
  show Nat.gcd t.natAbs b.natAbs ≤ b.natAbs
  exact Nat.gcd_le_right _ (by omega)
theorem sgn_ne (t b : Int) (h : b ≠ 0) : sgn t b ≠ 0 := by
  have := gcd_pos t b h
  unfold sgn
  split <;> omega
theorem sgn_abs (t b : Int) : (sgn t b).natAbs = Int.gcd t b := by
  unfold sgn
  split <;> omega
/-- the quotients are no larger -/
theorem fdiv_abs (t d : Int) (h : d ≠ 0) (hd : d ∣ t) : (t.fdiv d).natAbs ≤ t.natAbs := by
  obtain ⟨k, rfl⟩ := hd
  rw [Int.mul_fdiv_cancel_left k h, Int.natAbs_mul]
  exact Nat.le_mul_of_pos_left _ (by omega)
theorem sgn_dvd (t b : Int) : sgn t b ∣ t ∧ sgn t b ∣ b := by
  have h1 : ((Int.gcd t b : Nat) : Int) ∣ t := Int.gcd_dvd_left ..
  have h2 : ((Int.gcd t b : Nat) : Int) ∣ b := Int.gcd_dvd_right ..
  unfold sgn
  split
  · exact ⟨Int.neg_dvd.mpr h1, Int.neg_dvd.mpr h2⟩
  · exact ⟨h1, h2⟩
theorem low_abs (t b : Int) (h : b ≠ 0) : (low t b).1.natAbs ≤ t.natAbs ∧ (low t b).2.natAbs ≤ b.natAbs :=
  ⟨fdiv_abs t _ (sgn_ne t b h) (sgn_dvd t b).1, fdiv_abs b _ (sgn_ne t b h) (sgn_dvd t b).2⟩
theorem low_pos (t b : Int) (h : b ≠ 0) : 0 < (low t b).2 := by
  obtain ⟨k, hk⟩ := (sgn_dvd t b).2
  have hs := sgn_ne t b h
  have e : (low t b).2 = k := by
    show b.fdiv (sgn t b) = k
    rw [hk, ← hk]
    have e2 : b.fdiv (sgn t b) = (sgn t b * k).fdiv (sgn t b) := by rw [← hk]
    rw [e2]
    exact Int.mul_fdiv_cancel_left k hs
  rw [e]
  have g0 := gcd_pos t b h
  unfold sgn at hk
  by_cases hb : b < 0
  · rw [if_pos hb] at hk
    rcases Int.lt_trichotomy k 0 with z | z | z
    · exfalso
      have := Int.mul_nonneg_of_nonpos_of_nonpos (a := -((Int.gcd t b : Nat) : Int)) (b := k) (by omega) (by omega)
      omega
    · rw [z] at hk
      omega
    · exact z
  · rw [if_neg hb] at hk
    rcases Int.lt_trichotomy k 0 with z | z | z
    · exfalso
      have := Int.mul_nonneg (a := ((Int.gcd t b : Nat) : Int)) (b := -k) (by omega) (by omega)
      rw [Int.mul_neg] at this
      omega
    · rw [z] at hk
      omega
    · exact z
theorem low_one (t : Int) : low t 1 = (t, 1) := by
  unfold low sgn
  rw [if_neg (by decide), Int.gcd_one]
  show (t.fdiv 1, (1 : Int).fdiv 1) = (t, 1)
  rw [Int.fdiv_one]
  rfl
/-! ### squares taken out -/
/-- while n % (p * p) == 0: n //= p * p; o *= p -/
def whl : Nat → Int → Int → Int → Int × Int
  | 0, _, n, o => (n, o)
  | k + 1, p, n, o => if n % (p * p) = 0 then whl k p (n / (p * p)) (o * p) else (n, o)
/-- as squares_out goes on: over the primes, until 1 is left: (outside, inside, rest) -/
def sqL : List Int → Int → Int → Int → Int × Int × Int
  | [], n, o, i => (o, i, n)
  | p :: ps, n, o, i => if n = 1 then (o, i, n) else
    if (whl 10 p n o).1 % p = 0 then sqL ps ((whl 10 p n o).1 / p) (whl 10 p n o).2 (i * p) else sqL ps (whl 10 p n o).1 (whl 10 p n o).2 i
/-- as the law goes on: over all numbers -/
def fr : Nat → Int → Int → Int → Int × Int
  | 0, _, n, s => (s, n)
  | k + 1, p, n, s => if p * p ≤ n then fr k (p + 1) (whl 10 p n s).1 (whl 10 p n s).2 else (s, n)
theorem sq_div {n q : Int} (h0 : 0 < n) (hq : 4 ≤ q) (h : n % q = 0) : 0 < n / q ∧ n / q * 4 ≤ n ∧ n / q < n := by
  have e := Int.mul_ediv_add_emod n q
  rw [h, Int.add_zero] at e
  have h1 : 0 < n / q := by
    rcases Int.lt_or_le 0 (n / q) with z | z
    · exact z
    · have := Int.mul_le_mul_of_nonneg_left z (show 0 ≤ q by omega)
      rw [Int.mul_zero] at this
      omega
  have h2 : n / q * 4 ≤ n / q * q := Int.mul_le_mul_of_nonneg_left hq (by omega)
  rw [Int.mul_comm q] at e
  exact ⟨h1, by omega, by omega⟩
theorem pp4 {p : Int} (h : 2 ≤ p) : 4 ≤ p * p := by
  have := Int.mul_le_mul h h (by omega) (by omega)
  omega
theorem whl_ok : ∀ (k : Nat) (p n o : Int), 2 ≤ p → 0 < n → 0 < (whl k p n o).1 ∧ (whl k p n o).1 ≤ n
  | 0, p, n, o, _, h => ⟨h, Int.le_refl _⟩
  | k + 1, p, n, o, hp, h => by
    unfold whl
    split
    · rename_i z
      obtain ⟨a, b, c⟩ := sq_div h (pp4 hp) z
      obtain ⟨d, e⟩ := whl_ok k p (n / (p * p)) (o * p) hp a
      exact ⟨d, by omega⟩
    · exact ⟨h, Int.le_refl _⟩
/-- the loop's measure: whl with more fuel is the same -/
theorem whl_fuel : ∀ (k j : Nat) (p n o : Int), 2 ≤ p → 0 < n → n < 4 ^ k → whl (k + j) p n o = whl k p n o
  | 0, j, p, n, o, _, h, h2 => by
    have : n < 1 := h2
    omega
  | k + 1, j, p, n, o, hp, h, h2 => by
    rw [Nat.add_right_comm]
    show (if n % (p * p) = 0 then whl (k + j) p (n / (p * p)) (o * p) else (n, o)) = (if n % (p * p) = 0 then whl k p (n / (p * p)) (o * p) else (n, o))
    split
    · rename_i z
      obtain ⟨a, b, c⟩ := sq_div h (pp4 hp) z
      exact whl_fuel k j p _ _ hp a (by
        have e : (4 : Int) ^ (k + 1) = 4 ^ k * 4 := Int.pow_succ ..
        omega)
    · rfl
def primes : List Int := [2, 3, 5, 7, 11, 13, 17, 19, 23, 29, 31, 37, 41, 43, 47, 53, 59, 61, 67, 71, 73, 79, 83, 89, 97, 101, 103, 107, 109, 113, 127, 131, 137, 139, 149, 151, 157, 163, 167, 173, 179, 181, 191, 193, 197, 199, 211, 223, 227, 229, 233, 239, 241, 251, 257, 263, 269, 271, 277, 281, 283, 293, 307, 311, 313, 317, 331, 337, 347, 349, 353, 359, 367, 373, 379, 383, 389, 397, 401, 409, 419, 421, 431, 433, 439, 443, 449, 457, 461, 463, 467, 479, 487, 491, 499, 503, 509, 521, 523, 541, 547, 557, 563, 569, 571, 577, 587, 593, 599, 601, 607, 613, 617, 619, 631, 641, 643, 647, 653, 659, 661, 673, 677, 683, 691, 701, 709, 719, 727, 733, 739, 743, 751, 757, 761, 769, 773, 787, 797, 809, 811, 821, 823, 827, 829, 839, 853, 857, 859, 863, 877, 881, 883, 887, 907, 911, 919, 929, 937, 941, 947, 953, 967, 971, 977, 983, 991, 997]
def sqOut (n : Int) : Int × Int × Int := if n = 0 then (0, 1, 1) else sqL primes n 1 1
def free (n : Int) : Int × Int := fr 1000 2 n 1
/-- the roots that the law takes -/
def chk (r : Int) : Bool := match sqOut r, free r with
  | (o, i, m), (s, f) => decide (m = 1) && (decide (0 ≤ o) && (decide (o ≤ 1000) && (decide (1 ≤ i) && (decide (i ≤ 1000000) && (decide (r = 0) || (decide (0 < o) && (decide (s = o) && decide (f = i))))))))
def some11 : List Int := [0, 1, 4, 12, 997, 997 * 997, 2 ^ 19, 510510, 720720, 1000000, 30 * 30 * 7]
theorem chk_11 : some11.all chk = true := by decide +kernel
theorem chk_900 : (List.range 900).all (fun k => chk (1 + (k : Int))) = true := by decide +kernel
def Ok (r : Int) : Prop := 0 ≤ r ∧ r ≤ 1000000 ∧ chk r = true
theorem ok_11 {r : Int} (h : r ∈ some11) : Ok r := by
  refine ⟨?_, ?_, List.all_eq_true.mp chk_11 r h⟩
  · revert r; decide
  · revert r; decide
theorem ok_900 {d : Int} (h0 : 0 ≤ d) (h1 : d < 900) : Ok (1 + d) := by
  refine ⟨by omega, by omega, ?_⟩
  have := List.all_eq_true.mp chk_900 d.toNat (List.mem_range.mpr (by omega))
  rw [Int.toNat_of_nonneg h0] at this
  exact this
theorem Ok.all {r : Int} (h : Ok r) : (sqOut r).2.2 = 1 ∧ 0 ≤ (sqOut r).1 ∧ (sqOut r).1 ≤ 1000 ∧ 1 ≤ (sqOut r).2.1 ∧ (sqOut r).2.1 ≤ 1000000 ∧ (r ≠ 0 → 0 < (sqOut r).1 ∧ free r = ((sqOut r).1, (sqOut r).2.1)) := by
  obtain ⟨_, _, h⟩ := h
  unfold chk at h
  generalize sqOut r = a at h ⊢
  generalize free r = b at h ⊢
  obtain ⟨o, i, m⟩ := a
  obtain ⟨s, f⟩ := b
  simp only [Bool.and_eq_true, Bool.or_eq_true, decide_eq_true_eq] at h
  obtain ⟨h1, h2, h3, h4, h5, h6⟩ := h
  refine ⟨h1, h2, h3, h4, h5, fun hr => ?_⟩
  rcases h6 with h6 | ⟨h6, h7, h8⟩
  · exact absurd h6 hr
  · exact ⟨h6, by rw [h7, h8]⟩
/-- what exact comes to: no part, or one -/
def ex (top bottom root : Int) : Option (Int × Int × Int) :=
  if top * (sqOut root).1 = 0 then none else some ((sqOut root).2.1, (low (top * (sqOut root).1) bottom).1, (low (top * (sqOut root).1) bottom).2)
/-- what is due, as the law says it -/
def due (up under r : Int) : Option (Int × Int × Int) :=
  if up = 0 ∨ r = 0 then none else some ((free r).2, (lowL (up * (free r).1) under).1, (lowL (up * (free r).1) under).2)
theorem ex_due {t b r : Int} (hb : b ≠ 0) (h : Ok r) : ex t b r = due t b r := by
  obtain ⟨h1, h2, h3, h4, h5, h6⟩ := h.all
  unfold ex due
  by_cases hr : r = 0
  · subst hr
    rw [if_pos (show t * (sqOut 0).1 = 0 from Int.mul_zero _), if_pos (Or.inr rfl)]
  · obtain ⟨h7, h8⟩ := h6 hr
    rw [h8, ← low_eq _ _ hb]
    by_cases ht : t = 0
    · subst ht
      rw [if_pos (Int.zero_mul _), if_pos (Or.inl rfl)]
    · rw [if_neg (show ¬ t * (sqOut r).1 = 0 from fun e => by
        rcases Int.mul_eq_zero.mp e with e | e <;> omega), if_neg (show ¬ (t = 0 ∨ r = 0) by omega)]
theorem ok_one : Ok 1 := ok_11 (by decide)
theorem sq_one : sqOut 1 = (1, 1, 1) := by decide +kernel
theorem ex_one (t : Int) : ex t 1 1 = if t = 0 then none else some (1, t, 1) := by
  unfold ex
  rw [sq_one]
  show (if t * 1 = 0 then none else some ((1 : Int), (low (t * 1) 1).1, (low (t * 1) 1).2)) = _
  rw [Int.mul_one, low_one]
theorem ex_succ (t : Int) : ex t 1 1 ≠ ex (t + 1) 1 1 := by
  rw [ex_one, ex_one]
  split <;> split
  · omega
  · simp
  · simp
  · simp only [ne_eq, Option.some.injEq, Prod.mk.injEq, not_and]
    omega
end TCM
namespace TC
open PySem PySem.Spec PyProof.Rows L2 TCX
theorem iteNT {c A B : Prop} [Decidable c] (hc : ¬ c) (h : A) : if (!decide c) = true then A else B := by
  rw [decide_eq_false hc]
  exact iteT h
theorem iteD1 {c A B : Prop} [Decidable c] (hc : c) (h : A) : if decide c = true then A else B := by
  rw [decide_eq_true hc]
  exact iteT h
theorem iteD0 {c A B : Prop} [Decidable c] (hc : ¬ c) (h : B) : if decide c = true then A else B := by
  rw [decide_eq_false hc]
  exact iteF h
theorem iteB {b : Bool} {A B : Prop} (h1 : b = true → A) (h2 : b = false → B) : if b = true then A else B := by
  cases b
  · exact iteF (h2 rfl)
  · exact iteT (h1 rfl)
theorem ine {a b : Int} (h : a ≠ b) : ¬ (V.int a = V.int b) := fun e => h (V.int.inj e)
theorem same_upd {H : Hp} {p : Addr} {o : HO} (h : H p = none) : Same H (upd H p o) := fun b x e => by
  rw [upd_ne (ne_of_none e h)]
  exact e
theorem TyX.same {K : PySem.W.Frag} {H H' : Hp} {v : V} {t : Value} (h : TyX K H v t) (s : Same H H') : TyX K H' v t := by
  cases h with
  | base b =>
    cases b with
    | non => exact .base .non
    | bl y => exact .base (.bl y)
    | int i => exact .base (.int i)
    | str y => exact .base (.str y)
    | flt y => exact .base (.flt y)
    | lst e => exact .base (.lst (s _ _ e))
    | frz e => exact .base (.frz (s _ _ e))
    | tup e => exact .base (.tup (s _ _ e))
    | dK e => exact .base (.dK (s _ _ e))
    | dT e => exact .base (.dT (s _ _ e))
    | ins e cl ha hn htk hm => exact .base (.ins (s _ _ e) cl ha hn htk hm)
  | byt y => exact .byt y
  | set e => exact .set (s _ _ e)
  | kList e c => exact .kList e c
  | kTuple e c => exact .kTuple e c
  | kDict e c => exact .kDict e c
  | fTuple e => exact .fTuple (s _ _ e)
  | fDict e => exact .fDict (s _ _ e)
/-- no whole number -/
def NotInt (K : PySem.W.Frag) (H : Hp) (v : V) : Prop := ∃ (t : Value) (bi bb : Bool), TyX K H v t ∧ PySem.W.kitOne K t (.type "int") = some bi ∧ PySem.W.kitOne K t (.type "bool") = some bb ∧ (bi && !bb) = false
/-- whether v is a size -/
def Siz (K : PySem.W.Frag) (H : Hp) (v : V) (b : Bool) : Prop := (∃ n : Int, v = .int n ∧ b = (decide (0 ≤ n) && decide (n ≤ 40))) ∨ (b = false ∧ NotInt K H v)
theorem NotInt.same {K : PySem.W.Frag} {H H' : Hp} {v : V} (h : NotInt K H v) (s : Same H H') : NotInt K H' v := by
  obtain ⟨t, bi, bb, h1, h2⟩ := h
  exact ⟨t, bi, bb, TyX.same h1 s, h2⟩
theorem Siz.same {K : PySem.W.Frag} {H H' : Hp} {v : V} {b : Bool} (h : Siz K H v b) (s : Same H H') : Siz K H' v b := by
  rcases h with h | ⟨e, h⟩
  · exact .inl h
  · exact .inr ⟨e, h.same s⟩
theorem Siz.int {K : PySem.W.Frag} {H : Hp} {n : Int} (h0 : 0 ≤ n) (h1 : n ≤ 40) : Siz K H (.int n) true := .inl ⟨n, rfl, by rw [decide_eq_true h0, decide_eq_true h1]; rfl⟩
section
variable {P : Program} {w : World} {K : PySem.W.Frag} {mg : Str → Option Value} {base : Heap} {f : Addr} {fd : FuncData}
/-! ### is_whole -/
def spWhole (K : PySem.W.Frag) : Sp := fun vs H Q _ => (∃ n : Int, vs = [.int n] ∧ Q (.bl true) H) ∨ ∃ v, vs = [v] ∧ NotInt K H v ∧ Q (.bl false) H
theorem scWhole : FnScope ["thing"] ["thing"] (defScope sWhole) := ⟨rfl, rfl, rfl, by decide +kernel, rfl, by decide +kernel, by decide +kernel⟩
theorem ok_whole (F : FnP K "is_whole" sWhole f fd) (gI : mg "isinstance" = none) (gi : mg "int" = none) (gb : mg "bool" = none) : FnOk P w K mg base CX0 1 f fd ["thing"] (spWhole K) := by
  refine F.ok scWhole (fun vs H Q E h => ?_) (fun cdv A outer s H vs Q E hr h => ?_)
  · rcases h with ⟨n, rfl, _⟩ | ⟨v, rfl, _⟩ <;> rfl
  · refine ⟨_, PSs.nox (pss_one (ps_ret (pe_and (pe_callB call_isi (by rfl) gI (by decide +kernel) (pa_cons (pv 0) (pa_cons (pe_bltn (v := .ty "int") (by rfl) gi (by decide +kernel) rfl) pa_nil)))
      (pe_one (pe_not (pe_callB call_isi (by rfl) gI (by decide +kernel) (pa_cons (pv 0) (pa_cons (pe_bltn (v := .ty "bool") (by rfl) gb (by decide +kernel) rfl) pa_nil)))))))), ?_⟩
    rcases h with ⟨n, rfl, q⟩ | ⟨v, rfl, ⟨t, bi, bb, ty, ki, kb, e⟩, q⟩
    · refine ⟨_, rfl, _, _, _, _, true, rfl, .ty "int", .base (.int n), kit_ty (by decide +kernel), true, rfl, iteT ?_⟩
      exact ⟨_, rfl, _, _, _, _, false, rfl, .ty "bool", .base (.int n), kit_ty (by decide +kernel), false, rfl, q⟩
    · refine ⟨_, rfl, _, _, _, _, bi, rfl, .ty "int", ty, ki, bi, rfl, iteB (fun z => ?_) fun z => ?_⟩
      · subst z
        refine ⟨_, rfl, _, _, _, _, bb, rfl, .ty "bool", ty, kb, bb, rfl, ?_⟩
        have e2 : (!bb) = false := e
        rw [e2]
        exact q
      · exact q
theorem dec_int {a b : Int} : decide (V.int a = V.int b) = decide (a = b) := by
  by_cases h : a = b
  · rw [decide_eq_true h, decide_eq_true (congrArg V.int h)]
  · rw [decide_eq_false h, decide_eq_false (ine h)]
/-- what the program's text says of an exception class without fields -/
structure XTxt (K : PySem.W.Frag) (mg : Str → Option Value) (x : Str) (C : Addr) : Prop where
  g : mg x = some (.ref C)
  e : PySem.W.excIn K C He.veBase "ValueError.__new__" = true
  k : PySem.W.keepIn K (.ref C) = true
  b : PySem.W.subIn K (.ref C) (.type "BaseException") = some true
  t : PySem.W.typeIn K (.ref C) = some (.type "type")
theorem paired_at {α β : Type} {R : α → β → Prop} : ∀ {xs : List α} {ys : List β}, Paired R xs ys → ∀ (i : Nat) (x : α), xs[i]? = some x → ∃ y, ys[i]? = some y ∧ R x y
  | _, _, .nil, i, x, h => by cases h
  | _, _, .cons r t, 0, x, h => by
    cases h
    exact ⟨_, rfl, r⟩
  | _, _, .cons r t, i + 1, x, h => paired_at t i x h
theorem paired_len {α β : Type} {R : α → β → Prop} : ∀ {xs : List α} {ys : List β}, Paired R xs ys → xs.length = ys.length
  | _, _, .nil => rfl
  | _, _, .cons r t => congrArg (· + 1) (paired_len t)
theorem all_take {bs : List Bool} {i : Nat} {b : Bool} (h : (bs.take i).all id = true) (hb : bs[i]? = some b) (h2 : b = true) : (bs.take (i + 1)).all id = true := by
  rw [List.take_add_one, List.all_append, h, hb]
  subst h2
  rfl
theorem all_false {bs : List Bool} {i : Nat} (hb : bs[i]? = some false) : bs.all id = false := by
  refine List.all_eq_false.mpr ⟨false, List.mem_of_getElem? hb, fun z => Bool.noConfusion z⟩
end
end TC
/-! Rules of my own: == and != by an own __eq__ with either answer, str of an instance, enumerate of a tuple. -/
namespace TCA
open PySem PySem.Spec PyProof.Rows L2
/-! ### enumerate(tuple) -/
theorem meets_enum1 {v : Value} {o : Obj} {H : Heap → Prop} (B : Begins v o H) :
    Meets (Builtin.«enumerate.__new__» ⟨[.type "enumerate", v], []⟩) (fun _ R s => H s.heap ∧
      R (.ok (.ret (.ref (s.heap.push o).objs.size))) { s with heap := (s.heap.push o).push { cls := .type "enumerate", data := .fields #[.none, .bool false, .ref s.heap.objs.size, rawInt 0, .none, .none] } }) :=
  .of_wp fun prog w A R s h => by
    obtain ⟨hp, g, d, tk, os⟩ := s; obtain ⟨h1, h⟩ := h
    have hsub := sub_enumerate
    have q1 : ∀ {A' : Around} {E : Value → Shared → Prop} {Q : Value → Shared → Prop}, Q (.ref hp.objs.size) ⟨hp.push o, g, d, tk, os⟩ → wpAny (model prog w) A' (pyIter v) Q E ⟨hp, g, d, tk, os⟩ :=
      fun q => B.iter prog w _ _ ⟨hp, g, d, tk, os⟩ _ h1 q
    wp_walk using q1
    refine wpAny_stack_any fun st => wpAny_pure ?_
    split
    · rename_i c _ _ _ _ _
      cases (c == Value.type "enumerate")
      · wp_walk using q1
        exact ⟨_, rfl, h⟩
      · wp_walk using q1
        exact ⟨_, rfl, h⟩
    · wp_walk using q1
      exact ⟨_, rfl, h⟩
theorem enum_begins1 {prog : Program} {w : World} {A : Around} {E : Value → Shared → Prop} {s : Shared} {v : Value} {o : Obj} {H : Heap → Prop} {Q : Value → Shared → Prop} (B : Begins v o H) (h1 : H s.heap)
    (h : ∀ h', IsEnum h' (s.heap.objs.size + 1) s.heap.objs.size 0 .none → h'.get? s.heap.objs.size = some o → h'.objs.size = s.heap.objs.size + 2 →
      (∀ b o, s.heap.get? b = some o → h'.get? b = some o) → Q (.ref (s.heap.objs.size + 1)) { s with heap := h' }) :
    wpAny (model prog w) A (call (.type "enumerate") [v]) Q E s := by
  refine callType_new F.called_enumerate (by decide) (F.typeCall_enumerate_1 _) (F.newCall_enumerate_1 _) (fun obj => F.args_object_init_2 obj _) F.entry_enumerate_new
    (meets_enum1 B) ⟨h1, ?_⟩
  have hz : (s.heap.push o).objs.size = s.heap.objs.size + 1 := Heap.size_push ..
  show _ ∧ _
  rw [hz]
  have he : IsEnum ((s.heap.push o).push { cls := .type "enumerate", data := .fields #[.none, .bool false, .ref s.heap.objs.size, rawInt 0, .none, .none] }) (s.heap.objs.size + 1) s.heap.objs.size 0 .none := by
    have := Heap.get?_push_size (s.heap.push o) (o := { cls := .type "enumerate", data := .fields #[.none, .bool false, .ref s.heap.objs.size, rawInt 0, .none, .none] }) rfl
    rw [hz] at this; exact this
  refine ⟨⟨_, he, rfl⟩, h _ he (Heap.get?_push_of_some _ (Heap.get?_push_size _ B.free)) (by rw [Heap.size_push, hz]) fun b o x => Heap.get?_push_of_some _ (Heap.get?_push_of_some _ x)⟩
/-- the tuple at a of xs, each item in a new pair -/
def Iet (K : PySem.W.Frag) (a : Addr) (xs : List V) : It :=
  ⟨fun i H => i < xs.length ∧ SqT K H a xs, fun i H v H' => ∃ T x, v = .ref T ∧ H T = none ∧ H' = upd H T (.tup [.int (i : Nat), x]) ∧ xs[i]? = some x, fun i H => xs.length ≤ i ∧ SqT K H a xs⟩
theorem turn_enumT {P : Program} {w : World} {K : PySem.W.Frag} {elts : List Expr} {kk : Nat} {tpos : Pos} (a e it : Addr) (xs : List V) :
    Turn P w K (.Tuple elts kk tpos) (Iet K a xs) [e, it] e (fun i h => (∃ old, IsEnum h e it ((i : Nat) : Int) old) ∧ h.IsTupleIter it a i ∧ e ≠ it ∧ a ≠ it ∧ e ≠ a ∧ i ≤ xs.length) where
  mem := by simp
  obj := fun i h st b hb => by
    obtain ⟨⟨old, he⟩, ⟨o, ho, hc, hd⟩, _⟩ := st
    have e' : b = e ∨ b = it := by simpa using hb
    rcases e' with z | z
    · rw [z]; exact ⟨_, he, fun v q => nomatch q⟩
    · rw [z]; exact ⟨o, ho, fun v q => by rw [hd] at q; cases q⟩
  keep := fun i h h' st k => let ⟨⟨old, he⟩, hi, hne⟩ := st; ⟨⟨old, k e (by simp) _ he⟩, hi.at fun o q => k it (by simp) o q, hne⟩
  item := by
    intro X hP hw hK hc i pins s σ H E I hf st hg
    subst hP hw hK
    obtain ⟨⟨old, he⟩, hit, hne, hai, hea, hle⟩ := st
    obtain ⟨hlt, hq⟩ := hg
    obtain ⟨its, rv, p, hz⟩ := I.tuple hq
    have hl := rv.length
    have hel : e < s.heap.objs.size := Heap.lt_size he
    have hil : it < s.heap.objs.size := by obtain ⟨_, q, _⟩ := hit; exact Heap.lt_size q
    have hh : X.A.in1.handled = none := I.ok.hd hc
    have D := Draws.tuple (prog := X.prog) (w := X.w) hh it a hai its.toArray
    refine wpAny_pyNext_enum_itemD D he ⟨hit, p⟩ (by simp; omega) hne (by simp; exact ⟨hne, hea⟩) fun u h' tk hu ho hst hT hsz hk => ?_
    obtain ⟨hit', _⟩ := hst
    have hu2 : its[i]? = some u := by simpa using hu
    have hx : xs[i]? = some xs[i] := List.getElem?_eq_getElem hlt
    obtain ⟨u2, hu3, ru⟩ := rv.get hx
    have eu : u2 = u := Option.some.inj (hu3.symm.trans hu2)
    subst eu
    refine ⟨_, rfl, wpAny_letOwnedTupleGo_enum (s := { s with heap := h', toks := tk + 1 }) ho fun h'' he' sb => ?_⟩
    have hT2 : h''.get? s.heap.objs.size = some { cls := .type "tuple", data := .seq #[.int i tk, u2] } := (sb.2 _ (Nat.ne_of_gt hel)).trans hT
    have new : ObjOk X.prog X.w (upd H s.heap.objs.size (.tup [.int (i : Nat), xs[i]])) h'' s.heap.objs.size (.tup [.int (i : Nat), xs[i]]) :=
      ⟨by show 2 ≤ sizeLine; decide, [.int i tk, u2], .cons ⟨_, rfl⟩ (.cons ru .nil), ⟨_, hT2, rfl, _, rfl⟩⟩
    have I1 : Inv X pins σ (upd H s.heap.objs.size (.tup [.int (i : Nat), xs[i]])) { s with heap := h'', toks := tk + 1 } :=
      I.turnedNew (ch := [e, it]) (fun b ob hb q => (sb.2 b (fun z => hb (by simp [z]))).trans (hk b ob (fun z => hb (by simp [z])) (fun z => hb (by simp [z])) q)) hf (Nat.le_refl _) new
    refine ⟨.ref s.heap.objs.size, _, I1, rfl, ⟨_, xs[i], rfl, I.hok.fresh (Nat.le_refl _), rfl, hx⟩, ⟨⟨u2, ?_⟩, hit'.at fun o q => (sb.2 it (Ne.symm hne)).trans q, hne, hai, hea, hlt⟩, fun b hb => ?_⟩
    · have e1 : ((i + 1 : Nat) : Int) = (i : Int) + 1 := by omega
      rw [e1]; exact he'
    · have hb' : b < s.heap.objs.size := by
        have e' : b = e ∨ b = it := by simpa using hb
        rcases e' with z | z
        · rw [z]; exact hel
        · rw [z]; exact hil
      rw [upd_ne (Nat.ne_of_lt hb')]
      exact (hf b hb).1
  done := by
    intro X hP hw hK hc i pins s σ H E I hf st hg
    subst hP hw hK
    obtain ⟨⟨old, he⟩, hit, hne, hai, hea, hle⟩ := st
    obtain ⟨hge, hq⟩ := hg
    obtain ⟨its, rv, p, hz⟩ := I.tuple hq
    obtain ⟨f0, f1, f2, f3, f4, f5⟩ := hf it (by simp)
    have hl := rv.length
    have hh : X.A.in1.handled = none := I.ok.hd hc
    have D := Draws.tuple (prog := X.prog) (w := X.w) hh it a hai its.toArray
    have ei : i = its.toArray.size := by simp; omega
    subst ei
    exact wpAny_pyNext_enum_endD D he ⟨hit, p⟩ fun h' eb => ⟨rfl, I.turned (t' := s.toks) (fun b o hb q => eb b o hb q) f0 f1 f3 f4 f5⟩
  self := fun A i s Q E st h => let ⟨⟨_, he⟩, _⟩ := st; wpAny_pyIter_enum he h
def iEnumT (K : PySem.W.Frag) (ta : TA) : TI := fun σ H R => ta σ H fun vs H1 => ∃ a xs, vs = [.ref a] ∧ SqT K H1 a xs ∧ R (Iet K a xs) H1
theorem pi_enumT {X : Cx} {e : Expr} {ta : TA} {p pos tpos : Pos} {elts : List Expr} {kk : Nat} (hg : Gl X "enumerate") (hm : X.mg "enumerate" = none) (ha : PA X [e] ta) (hs : starEach [e] X.env = [(false, eval e X.env)] := by rfl) :
    PI X (.Tuple elts kk tpos) (.Call (.Name "enumerate" p) [e] [] pos) (iEnumT X.K ta) := by
  refine ⟨fun pins s σ H R I h => ?_⟩
  refine Call_ (ld_blt I hg hm boot_enumerate (PyProof.Rows.callWith_type1 (thn (ha.run pos pins s σ H _ I h) fun us s1 ⟨vs, H1, I1, r1, q1⟩ => ?_) hs rfl))
  obtain ⟨a, xs, ex, hq, q⟩ := q1
  subst ex
  cases r1 with
  | cons r rr =>
    cases rr
    cases r
    obtain ⟨its, rv, p', hz⟩ := I1.tuple hq
    have hal : a < s1.heap.objs.size := by obtain ⟨o, h1, _⟩ := p'; exact Heap.lt_size h1
    refine enum_begins1 (begins_tuple a its.toArray) p' fun h' he hit hsz hk => wpAny_pyIter_enum he ?_
    have I2 : Inv X pins σ H1 { s1 with heap := h' } := I1.kept (t' := s1.toks) hk
    refine ⟨s1.heap.objs.size + 1, [s1.heap.objs.size + 1, s1.heap.objs.size], _, _, H1, rfl, I2, turn_enumT a (s1.heap.objs.size + 1) s1.heap.objs.size xs, ⟨⟨.none, he⟩, ⟨_, hit, rfl, rfl⟩, Nat.succ_ne_self _, Nat.ne_of_lt hal, Nat.ne_of_gt (Nat.lt_succ_of_lt hal), Nat.zero_le _⟩, fun b hb => ?_, q⟩
    have e' : b = s1.heap.objs.size + 1 ∨ b = s1.heap.objs.size := by simpa using hb
    have hle : s1.heap.objs.size ≤ b := by
      rcases e' with z | z
      · rw [z]; exact Nat.le_add_right _ _
      · rw [z]; exact Nat.le_refl _
    exact I1.fpOk hle (I1.hok.fresh hle)
/-! ### == and != by an own __eq__ -/
section
variable {X : Cx} {CX : CXT} {n : Nat} {C f : Addr} {fd : FuncData} {ps : List Str} {sp : Sp} {E : XK}
/-- the own method runs somewhere below -/
theorem run_sub {A : Around} {pins : List (Addr × Obj)} {σ : L2.St} {H : Hp} {s : Shared} {Q : VK} {us : List Value} {vs : List V} (F : FnOk X.prog X.w X.K X.mg X.base CX n f fd ps sp) (hb : Binds X.K fd ps []) (hx : Passes CX X E)
    (sb : Sub X n A) (I : Inv X pins σ H s) (r : Vals vs us) (h : sp vs H Q E) : wpAny (model X.prog X.w) A (call (.ref f) us) (EP X pins σ Q) X.xe s := by
  have e0 : Env0 X.prog X.w X.K X.mg X.base A X.stack s H := by
    have e := I.env0
    exact ⟨by rw [sb.fr]; exact e.frames, e.mod, e.bs, e.bsz, e.funs, e.frf, e.hok, e.bare⟩
  have hl : us.length = ps.length := by rw [← r.length]; exact F.len _ _ _ _ h
  refine wpAny_call (codeAny_mono (F.run A X.stack s H ⟨us, []⟩ us vs Q E sb.room e0 (by
    have := hb s us I.kIn (by simpa using hl)
    simpa using this) r h) fun r s' hq => ?_)
  cases r with
  | error e => exact hx pins σ H s e s' I hq
  | ok fl =>
    cases fl with
    | ret w => exact I.after hq
    | next => exact False.elim hq
    | brk => exact False.elim hq
    | cont => exact False.elim hq
/-- x == y, x an instance of the class at C with an own __eq__ that hands back a truth -/
def rEqO (K : PySem.W.Frag) (C : Addr) (sp : Sp) (E : XK) : R2 := fun x y H Q => ∃ a dx fs t, x = .ref a ∧ H a = some (.ins C dx fs) ∧ TyX K H y t ∧ PySem.W.notFirst K C t = true ∧
  sp [x, y] H (fun v H' => ∃ b, v = .bl b ∧ Q (.bl b) H') E
theorem op_eqO (F : FnOk X.prog X.w X.K X.mg X.base CX n f fd ps sp) (hs : PySem.W.findIn X.K (.ref C) "__eq__" = some (some (.ref f))) (hf : PySem.W.isFn X.K (.ref f) = true) (hb : Binds X.K fd ps []) (hx : Passes CX X E)
    (hr : Room n X.A) : OpR X (compareOp .Eq) (rEqO X.K C sp E) := by
  intro pins s σ H x y v u Q I rx ry hq
  obtain ⟨a, dx, fs, t, rfl, ha, ty, nf, q⟩ := hq
  cases (show v = Value.ref a from rx)
  obtain ⟨mA, J, _⟩ := ins_get I.hok ha
  obtain ⟨od, J, _⟩ := J.look
  obtain ⟨m, hF⟩ := I.fr
  obtain ⟨Pz, Z, pz, _⟩ := kit_of I ry ty
  have hu : X.A.units < cLine := Nat.lt_of_succ_lt (hu_of hr)
  refine PySem.W.cmp_K (op := .Eq) (tb := t) hu hF I.ok.mod.kin J (Z.ty _ _ I.kIn pz) nf hs hf ?_
  refine wpAny_mono (run_sub F hb hx ⟨hr, rfl⟩ I (.cons rx (.cons ry .nil)) q) (fun r s' hz => ?_) fun _ _ z => z
  obtain ⟨z, H', I', rz, b, rfl, qb⟩ := hz
  cases (show r = Value.bool b from rz)
  exact ⟨.bl b, H', I', rfl, qb⟩
/-- x != y: the default __ne__ asks the own __eq__ -/
def rNeO (K : PySem.W.Frag) (C : Addr) (sp : Sp) (E : XK) : R2 := fun x y H Q => ∃ a dx fs t, x = .ref a ∧ H a = some (.ins C dx fs) ∧ TyX K H y t ∧ PySem.W.notFirst K C t = true ∧
  sp [x, y] H (fun v H' => ∃ b, v = .bl b ∧ Q (.bl (!b)) H') E
theorem ifBound_B {M : Model} {A : Around} {E : Value → Shared → Prop} {s : Shared} {K : PySem.W.Frag} {x C : Addr} {ox : Obj} {od : Option Obj} {name : Str} {id : String} {args : List Value} {Q : Option Value → Shared → Prop} (X : K.In s.heap) (I : PySem.W.InstAt s.heap x ox C od)
    (hs : PySem.W.findIn K (.ref C) name = some (some (.builtin id))) (hb : ∀ self, bindSpecial (.builtin id) self = pure (.builtin id, [self]))
    (h : wpAny M A (call (.builtin id) (.ref x :: args)) (fun v => Q (some v)) E s) : wpAny M A (callSpecialIfBound? (.ref x) name args) Q E s := by
  simp only [callSpecialIfBound?, bindSpecialIfBound?]
  refine wpAny_holding (wpAny_bind (wpAny_bind (wpAny_bind (I.type.here ((PySem.W.looks_findIn X hs).here ?_)))))
  refine wpAny_bind (wpAny_askSetting (wpAny_ite ?_))
  have fin : wpAny M A (call (.builtin id) ([.ref x] ++ args) >>= fun v => pure (some v)) Q E s := wpAny_bind (wpAny_mono h (fun v s' h' => wpAny_pure h') fun _ _ h' => h')
  have L := (PySem.W.Looks.of_pure (M := M) (h := s.heap) (hb (.ref x)))
  split
  · exact wpAny_bind (L.here (wpAny_pure (by exact fin)))
  · exact wpAny_tryCatch (wpAny_bind (L.here (wpAny_pure (by exact fin))))
theorem op_neO (F : FnOk X.prog X.w X.K X.mg X.base CX n f fd ps sp) (hs : PySem.W.findIn X.K (.ref C) "__eq__" = some (some (.ref f))) (hf : PySem.W.isFn X.K (.ref f) = true) (hb : Binds X.K fd ps []) (hx : Passes CX X E)
    (hn : PySem.W.findIn X.K (.ref C) "__ne__" = some (some (.builtin "object.__ne__"))) (hm : PySem.W.mroIn X.K C (.type "object") = some true)
    (hr : Room (n + 1) X.A) : OpR X (compareOp .NotEq) (rNeO X.K C sp E) := by
  intro pins s σ H x y v u Q I rx ry hq
  obtain ⟨a, dx, fs, t, rfl, ha, ty, nf, q⟩ := hq
  cases (show v = Value.ref a from rx)
  obtain ⟨mA, J, _⟩ := ins_get I.hok ha
  obtain ⟨od, J, _⟩ := J.look
  obtain ⟨Pz, Z, pz, _⟩ := kit_of I ry ty
  have hu : X.A.units < cLine := Nat.lt_of_succ_lt (hu_of hr)
  have hu1 : X.A.in1.units < cLine := hu_of hr
  have K0 := I.kIn
  have run := run_sub F hb hx (A := X.A.in1) ⟨hr.in1, rfl⟩ I (.cons rx (.cons ry .nil)) q
  have one : wpAny (model X.prog X.w) X.A (tryCompare (.ref a) "__ne__" u) (fun r s' => ∃ v, r = some v ∧ EP X pins σ Q v s') X.xe s := by
    unfold tryCompare
    refine wpAny_bind (ifBound_B K0 J hn PySem.F.cmp_object.ne.bind ?_)
    refine wpAny_call (codeAny_call_builtin PySem.F.cmp_object.ne.plain PySem.F.cmpEntry_ne (PySem.W.check_slot (i := "object.__ne__") (owner := "object") (n := "__ne__") PySem.F.cmpKind_ne PySem.F.cmpSplit_ne (J.type.andThen (PySem.W.looks_mroIn K0 hm)) (PySem.F.cmpArgs_ne _ _) ?_))
    unfold Builtin.«object.__ne__»
    refine wpAny_bind (m := slotArgs "__ne__" 1 _) (wpAny_pure ?_)
    refine wpAny_bind (m := cRoomFor _ _) (wpAny_cRoomFor hu1 ?_)
    refine wpAny_bind (m := callSpecialIfBound? (.ref a) (Str.ofString "__eq__") _) (PySem.W.ifBound_K K0 J hs hf (wpAny_mono run (fun r s' hz => ?_) fun _ _ z => z))
    obtain ⟨z, H', I', rz, b, rfl, qb⟩ := hz
    cases (show r = Value.bool b from rz)
    refine wpAny_bind (wpAny_truthy_bool ?_)
    exact wpAny_pure (wpAny_pure ⟨_, rfl, .bl (!b), H', I', rfl, qb⟩)
  show wpAny (model X.prog X.w) X.A (richCompare .NotEq (.ref a) u) (EP X pins σ Q) X.xe s
  unfold richCompare
  simp only [oneThing_ref]
  refine wpAny_holding (wpAny_bind (wpAny_cRoomFor hu ?_))
  refine wpAny_bind (J.type.here (wpAny_bind ((Z.ty _ _ I.kIn pz).here ?_)))
  split
  · rename_i q2
    have e : PySem.W.subIn X.K t (.ref C) = some false := by
      rcases Bool.or_eq_true_iff.mp nf with e | e
      · rw [beq_iff_eq.mp e] at q2; simp at q2
      · exact beq_iff_eq.mp e
    refine wpAny_bind ((PySem.W.looks_subIn K0 e).here ?_)
    simp only [Bool.false_eq_true, if_false]
    refine wpAny_bind (wpAny_mono one (fun r s' z => ?_) fun _ _ e => e)
    obtain ⟨v, rfl, hq⟩ := z
    exact wpAny_pure hq
  · refine wpAny_bind (wpAny_pure ?_)
    simp only [Bool.false_eq_true, if_false]
    refine wpAny_bind (wpAny_mono one (fun r s' z => ?_) fun _ _ e => e)
    obtain ⟨v, rfl, hq⟩ := z
    exact wpAny_pure hq
/-! ### str(x) by an own __str__ -/
def rStrO (C : Addr) (sp : Sp) (E : XK) : List V → Hp → VK → Prop := fun xs H Q => ∃ a dx fs, xs = [.ref a] ∧ H a = some (.ins C dx fs) ∧ sp [.ref a] H (fun v H' => ∃ z, v = .str z ∧ Q (.str z) H') E
theorem call_strO (F : FnOk X.prog X.w X.K X.mg X.base CX n f fd ps sp) (hs : PySem.W.findIn X.K (.ref C) "__str__" = some (some (.ref f))) (hf : PySem.W.isFn X.K (.ref f) = true) (hb : Binds X.K fd ps []) (hx : Passes CX X E)
    (hr : Room (n + 2) X.A) : CallR X (.type "str") (rStrO C sp E) := by
  intro pins s σ H xs us Q I r hq
  obtain ⟨a, dx, fs, rfl, ha, q⟩ := hq
  obtain ⟨u, rfl, rx⟩ : ∃ u, us = [u] ∧ RelV (.ref a) u := by
    cases r with
    | cons r rr => cases rr; exact ⟨_, rfl, r⟩
  cases (show u = Value.ref a from rx)
  obtain ⟨mA, J, _⟩ := ins_get I.hok ha
  obtain ⟨od, J, _⟩ := J.look
  have hr2 : Room n X.A.in1.in1 := hr.in1.in1
  have hu : X.A.in1.in1.units < cLine := Nat.lt_of_succ_lt (hu_of hr2)
  refine PySem.W.kso_call hu I.kIn J hs hf ?_
  refine wpAny_mono (run_sub F hb hx (A := X.A.in1.in1) ⟨hr2, rfl⟩ I (.cons rx .nil) q) (fun r s' hz => ?_) fun _ _ z => z
  obtain ⟨z, H', I', rz, x, rfl, qb⟩ := hz
  obtain ⟨t, e⟩ := (show ∃ t, r = Value.str x t from rz)
  cases e
  exact ⟨.str x, H', I', ⟨t, rfl⟩, qb⟩
/-! ### // by a number of either sign -/
def CDivNW (_ j : Int) : Prop := j ≠ 0 ∧ j.natAbs.log2 < 9000
theorem op_fdivNW : OpR X (binaryOp .FloorDiv) (rI CDivNW fun i j => .int (i.fdiv j)) := opI fun _ _ _ _ _ _ _ hc q => floordiv_int hc.1 q (.inl (PyProof.noPylong_of_log2 hc.2))
end
end TCA
namespace TC
open PySem PySem.Spec PyProof.Rows L2 TCA TCX
section
variable {P : Program} {w : World} {K : PySem.W.Frag} {mg : Str → Option Value} {base : Heap} {f : Addr} {fd : FuncData}
/-! ### _law_pen -/
def spPen (K : PySem.W.Frag) : Sp := fun vs H Q _ => ∃ (a : Addr) (ns : List Int), vs = [.ref a] ∧ SqL K H a (ns.map V.int) ∧ ns.length ≤ 63 ∧
  ∀ (p c : Addr) (ms : List Int) H', Same H H' → H p = none → H' p = some (.lst [.ref c, .int 0, .int 0]) → H' c = some (.lst (ms.map V.int)) → p ≠ c → Q (.ref p) H'
theorem scPen : FnScope ["_law_script"] ["_law_script"] (defScope sPen) := ⟨rfl, rfl, rfl, by decide +kernel, rfl, by decide +kernel, by decide +kernel⟩
theorem ok_pen (F : FnP K "_law_pen" sPen f fd) (gl : mg "list" = none) : FnOk P w K mg base CX0 1 f fd ["_law_script"] (spPen K) := by
  refine F.ok scPen (fun vs H Q E h => ?_) (fun cdv A outer s H vs Q E hr h => ?_)
  · obtain ⟨a, ns, rfl, _⟩ := h
    rfl
  · obtain ⟨a, ns, rfl, hS, hn, q⟩ := h
    refine ⟨_, PSs.nox (pss_one (ps_ret (pe_lst (pa_cons (pe_callTy call_list_of (by rfl) gl (by decide +kernel) (pa_cons (pe_slice sl_list (pv 0) po_none (po_some pe_int)) pa_nil)) (pa_cons pe_int (pa_cons pe_int pa_nil)))))), ?_⟩
    refine ⟨_, rfl, _, rfl, a, _, rfl, hS, fun c1 hc1 => ?_⟩
    have sm1 := same_upd (o := .lst (cutV (ns.map V.int) none (some 63))) hc1
    refine ⟨c1, _, rfl, .inl (SqL.of upd_same), fun c hc => ?_⟩
    have sm2 := same_upd (o := .lst (cutV (ns.map V.int) none (some 63))) hc
    refine ⟨by show 3 ≤ sizeLine; decide, fun p hp => ?_⟩
    have sm3 := same_upd (o := .lst [.ref c, .int 0, .int 0]) hp
    have ec : cutV (ns.map V.int) none (some 63) = ((ns.drop (HT.sIx (ns.map V.int).length 0 none)).take (HT.sIx (ns.map V.int).length (ns.map V.int).length (some 63) - HT.sIx (ns.map V.int).length 0 none)).map V.int := by
      rw [List.map_take, List.map_drop]
      rfl
    refine q p c ((ns.drop (HT.sIx (ns.map V.int).length 0 none)).take (HT.sIx (ns.map V.int).length (ns.map V.int).length (some 63) - HT.sIx (ns.map V.int).length 0 none)) _ ((sm1.trans sm2).trans sm3) ((sm1.trans sm2).free hp) upd_same ?_ ?_
    · rw [← ec]
      exact sm3 _ _ upd_same
    · exact fun e => by
        rw [e, upd_same] at hp
        cases hp
/-! ### _law_draw -/
/-- the pen: its cells at c, where it stands, what is left of a great cell -/
def PenAt (H : Hp) (p c : Addr) (ms : List Int) (n : Int) : Prop := ∃ left : Int, H p = some (.lst [.ref c, .int n, .int left]) ∧ H c = some (.lst (ms.map V.int)) ∧ p ≠ c
/-- all but the pen is as it was -/
def SameBut (p : Addr) (H H' : Hp) : Prop := ∀ b o, b ≠ p → H b = some o → H' b = some o
def spDraw : Sp := fun vs H Q _ => ∃ (p c : Addr) (ms : List Int) (n m : Int), vs = [.ref p, .int m] ∧ PenAt H p c ms n ∧ 0 ≤ n ∧ n ≤ 1000000 ∧ 0 < m ∧ m < 2 ^ 1000 ∧
  ∀ (d n' : Int) H', 0 ≤ d → d < m → n ≤ n' → n' ≤ n + 1 → PenAt H' p c ms n' → SameBut p H H' → Q (.int d) H'
theorem scDraw : FnScope ["_law_pen_here", "_law_many", "_law_found", "_law_at", "_law_cell", "_law_number"] ["_law_pen_here", "_law_many"] (defScope sDraw) := ⟨rfl, rfl, rfl, by decide +kernel, rfl, by decide +kernel, by decide +kernel⟩
theorem but_upd {p : Addr} {H H1 : Hp} {o : HO} (s : SameBut p H H1) : SameBut p H (upd H1 p o) := fun b x hb e => by
  rw [upd_ne hb]
  exact s b x hb e
set_option exponentiation.threshold 2000 in
theorem wdiv {i m : Int} (h : 0 < m) (h2 : m < 2 ^ 1000) : CDivW i m := ⟨h, Nat.lt_of_lt_of_le (PySem.Flt.log2_lt_of (show 0 < 1000 by decide) (show m.natAbs < 2 ^ 1000 by omega)) (by decide)⟩
theorem ok_draw (F : FnP K "_law_draw" sDraw f fd) (gl : mg "len" = none) : FnOk P w K mg base CX0 1 f fd ["_law_pen_here", "_law_many"] spDraw := by
  refine F.ok scDraw (fun vs H Q E h => ?_) (fun cdv A outer s H vs Q E hr h => ?_)
  · obtain ⟨p, c, ms, n, m, rfl, _⟩ := h
    rfl
  · obtain ⟨p, c, ms, n, m, rfl, ⟨left, hp, hc, hpc⟩, n0, n1, m0, m1, q⟩ := h
    refine ⟨_, PSs.nox (pss_cons (ps_if (pt_cmpR op_gt (pe_ix ix_list (pv 0) pe_int (fun _ _ => rfl)) pe_int (nomark _))
        (pss_cons (ps_set (i := 2) scDraw.nd rfl (.inl rfl) (pe_op op_mod (pe_ix ix_list (pv 0) pe_int (fun _ _ => rfl)) (pv 1)))
        (pss_cons (ps_asg (pe_op op_fdivW (pe_ix ix_list (pv 0) pe_int (fun _ _ => rfl)) (pv 1)) (pg_sub (pv 0) pe_int set_list))
        (pss_one (ps_ret (pv 2))))) pss_nil)
      (pss_cons (ps_set (i := 3) scDraw.nd rfl (.inl rfl) (pe_ix ix_list (pv 0) pe_int (fun _ _ => rfl)))
      (pss_cons (ps_asg (pe_op op_add (pv 3) pe_int) (pg_sub (pv 0) pe_int set_list))
      (pss_cons (ps_set (i := 4) scDraw.nd rfl (.inl rfl) pe_int)
      (C8.pss_cut (ps_if (pt_cmpR op_gt (pe_callB call_len_seq (by rfl) gl PySem.boot_len (pa_cons (pe_ix ix_list (pv 0) pe_int (fun _ _ => rfl)) pa_nil)) pe_int (nomark _))
        (pss_one (ps_set (i := 4) scDraw.nd rfl (.inl rfl) (pe_ix ix_list (pe_ix ix_list (pv 0) pe_int (fun _ _ => rfl)) (pe_op op_mod (pv 3) (pe_callB call_len_seq (by rfl) gl PySem.boot_len (pa_cons (pe_ix ix_list (pv 0) pe_int (fun _ _ => rfl)) pa_nil))) (fun _ _ => rfl)))) pss_nil)
      (C8.pss_cut (ps_if (PW.pt (pw_and (pt_cmpR op_lt (pv 3) (pe_callB call_len_seq (by rfl) gl PySem.boot_len (pa_cons (pe_ix ix_list (pv 0) pe_int (fun _ _ => rfl)) pa_nil)) (nomark _)) (pw_and1 (pt_cmpR op_ge (pv 4) (pe_op op_pow pe_int pe_int) (nomark _)))))
        (pss_cons (ps_asg (pe_op op_fdivW (pv 4) (pv 1)) (pg_sub (pv 0) pe_int set_list)) (pss_one (ps_ret (pe_op op_mod (pv 4) (pv 1))))) pss_nil)
      (pss_cons (ps_set (i := 5) scDraw.nd rfl (.inl rfl) (pe_op op_mod (pe_op op_mul (pe_op op_add (pe_op op_mod (pv 4) pe_int) pe_int) (pe_op op_add (pe_op op_add (pe_op op_mul (pv 3) (pv 3)) (pe_op op_mul pe_int (pv 3))) pe_int)) pe_int))
      (pss_cons (ps_set (i := 5) scDraw.nd rfl (.inl rfl) (pe_op op_mod (pe_op op_mul (pe_op op_mod (pe_op op_add (pe_op op_pow (pv 5) pe_int) (pe_op op_mul pe_int (pv 3))) pe_int) pe_int) pe_int))
      (C8.pss_cut (ps_if (pt_cmpR op_gt (pv 1) (pe_op op_pow pe_int pe_int) (nomark _))
        (pss_one (ps_set (i := 5) scDraw.nd rfl (.inl rfl) (pe_op op_add (pe_op op_mul (pv 5) pe_int) (pe_op op_mod (pe_op op_mul (pe_op op_mod (pv 5) pe_int) pe_int) pe_int)))) pss_nil)
      (pss_one (ps_ret (pe_op op_mod (pe_op op_fdiv (pv 5) pe_int) (pv 1))))))))))))), ?_⟩
    have i2 : atI ([.ref c, .int n, .int left] : List V) 2 = some (.int left) := atI_nat (j := 2) rfl
    have i1 : atI ([.ref c, .int n, .int left] : List V) 1 = some (.int n) := atI_nat (j := 1) rfl
    refine ⟨_, rfl, p, _, 2, _, rfl, rfl, SqL.of hp, i2, left, 0, rfl, rfl, _, rfl, ?_⟩
    by_cases hl : 0 < left
    · refine iteD1 hl ?_
      refine ⟨_, rfl, p, _, 2, _, rfl, rfl, SqL.of hp, i2, _, rfl, left, m, rfl, rfl, m0, ?_⟩
      refine ⟨_, rfl, p, _, 2, _, rfl, rfl, SqL.of hp, i2, _, rfl, left, m, rfl, rfl, wdiv m0 m1, ?_⟩
      refine ⟨_, rfl, p, _, 2, 2, rfl, rfl, hp, rfl, ?_⟩
      refine ⟨_, rfl, ?_⟩
      exact q _ n _ (Int.emod_nonneg _ (by omega)) (Int.emod_lt_of_pos _ m0) (by omega) (by omega) ⟨left / m, upd_same, by rw [upd_ne hpc.symm]; exact hc, hpc⟩ (but_upd fun _ _ _ e => e)
    · refine iteD0 hl ?_
      refine ⟨_, rfl, p, _, 1, _, rfl, rfl, SqL.of hp, i1, ?_⟩
      refine ⟨_, rfl, n, 1, rfl, rfl, _, rfl, p, _, 1, 1, rfl, rfl, hp, rfl, ?_⟩
      have hp2u : (upd H p (.lst [.ref c, .int (n + 1), .int left])) p = some (.lst [.ref c, .int (n + 1), .int left]) := upd_same
      have hc2u : (upd H p (.lst [.ref c, .int (n + 1), .int left])) c = some (.lst (ms.map V.int)) := by
        rw [upd_ne hpc.symm]
        exact hc
      obtain ⟨H2, eH2⟩ : ∃ H2 : Hp, upd H p (.lst [.ref c, .int (n + 1), .int left]) = H2 := ⟨_, rfl⟩
      have hp2 : H2 p = some (.lst [.ref c, .int (n + 1), .int left]) := by
        rw [← eH2]
        exact hp2u
      have hc2 : H2 c = some (.lst (ms.map V.int)) := by
        rw [← eH2]
        exact hc2u
      have sb : SameBut p H H2 := by
        rw [← eH2]
        exact but_upd fun _ _ _ e => e
      have j0 : atI ([.ref c, .int (n + 1), .int left] : List V) 0 = some (.ref c) := atI_nat (j := 0) rfl
      refine ⟨fun σ H' => ∃ cell : Int, σ = [some (.ref p), some (.int m), none, some (.int n), some (.int cell), none] ∧ H' = H2, ?_, fun σ' H' hM => ?_⟩
      · refine ⟨_, rfl, p, _, 0, _, rfl, rfl, SqL.of hp2u, j0, c, _, rfl, .inl (SqL.of hc2u), _, 0, rfl, rfl, _, rfl, ite2 (fun e => ?_) (fun e => ?_)⟩
        · have e2 : 0 < ((ms.map V.int).length : Int) := of_decide_eq_true e
          rw [List.length_map] at e2
          have hk0 := Int.emod_nonneg n (show (ms.length : Int) ≠ 0 by omega)
          have hk1 := Int.emod_lt_of_pos n e2
          have hk : (n % (ms.length : Int)).toNat < ms.length := by omega
          refine ⟨_, rfl, p, _, 0, _, rfl, rfl, SqL.of hp2u, j0, _, rfl, _, rfl, p, _, 0, _, rfl, rfl, SqL.of hp2u, j0, c, _, rfl, .inl (SqL.of hc2u), n, _, rfl, rfl, by
            show 0 < ((ms.map V.int).length : Int)
            rw [List.length_map]
            exact e2, c, _, _, .int (ms[(n % (ms.length : Int)).toNat]), rfl, rfl, SqL.of hc2u, ?_, ?_⟩
          · rw [List.length_map]
            exact at_of (j := (n % (ms.length : Int)).toNat) (by omega) (by rw [List.getElem?_map, List.getElem?_eq_getElem hk]; rfl)
          · exact ⟨_, rfl, eH2⟩
        · exact ⟨7, rfl, eH2⟩
      · obtain ⟨cell, rfl, eM⟩ := hM
        replace eM := eM.symm
        subst eM
        refine ⟨fun σ H' => σ = [some (.ref p), some (.int m), none, some (.int n), some (.int cell), none] ∧ H' = H2, ?_, fun σ' H' hM => ?_⟩
        · refine ⟨_, rfl, _, rfl, p, _, 0, _, rfl, rfl, SqL.of hp2, j0, c, _, rfl, .inl (SqL.of hc2), n, _, rfl, rfl, _, rfl, ite2 (fun _ => ?_) (fun _ => iteF ⟨rfl, rfl⟩)⟩
          refine ⟨_, rfl, 10, 18, rfl, rfl, ⟨by decide, by decide, by decide⟩, cell, _, rfl, rfl, _, rfl, ite2 (fun _ => ?_) (fun _ => ⟨rfl, rfl⟩)⟩
          refine ⟨_, rfl, _, rfl, cell, m, rfl, rfl, wdiv m0 m1, _, rfl, p, _, 2, 2, rfl, rfl, hp2, rfl, ?_⟩
          refine ⟨_, rfl, _, rfl, cell, m, rfl, rfl, m0, ?_⟩
          exact q _ (n + 1) _ (Int.emod_nonneg _ (by omega)) (Int.emod_lt_of_pos _ m0) (by omega) (by omega) ⟨cell / m, upd_same, by rw [upd_ne hpc.symm]; exact hc2, hpc⟩ (but_upd sb)
        · obtain ⟨rfl, eM⟩ := hM
          replace eM := eM.symm
          subst eM
          have c0 := Int.emod_nonneg cell (show (2147483629 : Int) ≠ 0 by decide)
          have c1 := Int.emod_lt_of_pos cell (show (0 : Int) < 2147483629 by decide)
          refine ⟨_, rfl, cell, 2147483629, rfl, rfl, (show (0 : Int) < 2147483629 by decide), _, 11, rfl, rfl, _, rfl, _, rfl, n, n, rfl, rfl, .inl ⟨by omega, by omega⟩, _, rfl, 5, n, rfl, rfl, .inl ⟨by decide, by decide⟩, _, _, rfl, rfl, _, 3, rfl, rfl, _, _, rfl, rfl, .inl ⟨by omega, by omega⟩, _, 2147483647, rfl, rfl, (show (0 : Int) < 2147483647 by decide), ?_⟩
          have hz2 : ∀ z : Int, (z % 2147483647).natAbs < 2 ^ 64 := fun z => by
            have d0 := Int.emod_nonneg z (show (2147483647 : Int) ≠ 0 by decide)
            have d1 := Int.emod_lt_of_pos z (show (0 : Int) < 2147483647 by decide)
            omega
          refine ⟨_, rfl, _, 3, rfl, rfl, ⟨by decide, by decide, hz2 _⟩, _, rfl, 69621, n, rfl, rfl, .inl ⟨by decide, by decide⟩, _, _, rfl, rfl, _, 2147483587, rfl, rfl, (show (0 : Int) < 2147483587 by decide), _, 40692, rfl, rfl, .inr ⟨by decide, by decide⟩, _, 2147483399, rfl, rfl, (show (0 : Int) < 2147483399 by decide), ?_⟩
          refine ⟨fun σ H' => ∃ z : Int, σ = [some (.ref p), some (.int m), none, some (.int n), some (.int cell), some (.int z)] ∧ H' = H2, ?_, fun σ' H' hM => ?_⟩
          · refine ⟨_, rfl, 10, 6, rfl, rfl, ⟨by decide, by decide, by decide⟩, m, _, rfl, rfl, _, rfl, ite2 (fun _ => ?_) (fun _ => ⟨_, rfl, rfl⟩)⟩
            exact ⟨_, rfl, _, 2147483629, rfl, rfl, .inr ⟨by decide, by decide⟩, _, rfl, _, 1000003, rfl, rfl, (show (0 : Int) < 1000003 by decide), _, 48271, rfl, rfl, .inr ⟨by decide, by decide⟩, _, 2147483587, rfl, rfl, (show (0 : Int) < 2147483587 by decide), _, _, rfl, rfl, _, rfl, rfl⟩
          · obtain ⟨z, rfl, eM⟩ := hM
            replace eM := eM.symm
            subst eM
            refine ⟨_, rfl, z, 64, rfl, rfl, ⟨by decide, by decide⟩, _, rfl, _, m, rfl, rfl, m0, ?_⟩
            exact q _ (n + 1) _ (Int.emod_nonneg _ (by omega)) (Int.emod_lt_of_pos _ m0) (by omega) (by omega) ⟨left, hp2, hc2, hpc⟩ sb
end
theorem Same.but {H H' : Hp} {p : Addr} (s : Same H H') : SameBut p H H' := fun b o _ e => s b o e
theorem SameBut.trans {H H1 H2 : Hp} {p : Addr} (s : SameBut p H H1) (t : SameBut p H1 H2) : SameBut p H H2 := fun b o n e => t b o n (s b o n e)
theorem SameBut.refl {H : Hp} {p : Addr} : SameBut p H H := fun _ _ _ e => e
theorem SameBut.new {H H1 : Hp} {p q : Addr} {o : HO} (s : SameBut p H H1) (n : H1 q = none) : SameBut p H (upd H1 q o) := s.trans (Same.but (same_upd n))
theorem PenAt.same {H H' : Hp} {p c : Addr} {ms : List Int} {n : Int} (h : PenAt H p c ms n) (s : Same H H') : PenAt H' p c ms n := by
  obtain ⟨l, h1, h2, h3⟩ := h
  exact ⟨l, s _ _ h1, s _ _ h2, h3⟩
theorem PenAt.new {H : Hp} {p c q : Addr} {ms : List Int} {n : Int} {o : HO} (h : PenAt H p c ms n) (hq : H q = none) : PenAt (upd H q o) p c ms n := h.same (same_upd hq)
theorem PenAt.ne {H : Hp} {p c q : Addr} {ms : List Int} {n : Int} (h : PenAt H p c ms n) (hq : H q = none) : q ≠ p := by
  obtain ⟨l, h1, h2, h3⟩ := h
  exact fun e => by rw [e, h1] at hq; cases hq
end TC
/-! repr of lists of ints; the end of a law whose own def asks repr. -/
namespace TCX
open PySem PySem.Spec PyProof.Rows L2
/-! ### data of lists of ints -/
def dInts (ns : List Int) : List PyData := ns.map PyData.int
theorem dpAll_ints {K : PySem.W.Frag} {H : Hp} : ∀ ns : List Int, DpAll K H (ns.map V.int) (dInts ns)
  | [] => .nil
  | n :: r => .cons (.int n) (dpAll_ints r)
theorem dp_ints {K : PySem.W.Frag} {H : Hp} {a : Addr} {ns : List Int} (h : H a = some (.lst (ns.map V.int))) : Dp K H (.ref a) (.list (dInts ns)) := .lst (SqL.of h) (dpAll_ints ns)
theorem log_small {i : Int} (h : i.natAbs < 10 ^ 9) : i.natAbs.log2 < 30 := Nat.lt_of_lt_of_le (PySem.Flt.log2_lt_of (show 0 < 30 by decide) (Nat.lt_trans h (by decide))) (by decide)
theorem ints_show : ∀ ns : List Int, (∀ n ∈ ns, n.natAbs < 10 ^ 9) → PyData.showableAll (dInts ns) = true ∧ PyData.hasDictAll (dInts ns) = false ∧ PyData.depthAll (dInts ns) = 0 ∧ PyData.leavesShortAll 13 (dInts ns) = true ∧ PyData.weightAll (dInts ns) ≤ 40 * ns.length
  | [], _ => ⟨rfl, rfl, rfl, rfl, Nat.le_refl _⟩
  | n :: r, h => by
    obtain ⟨h1, h2, h3, h4, h5⟩ := ints_show r fun m hm => h m (List.mem_cons_of_mem _ hm)
    have hn := h n List.mem_cons_self
    have hl := log_small hn
    refine ⟨?_, ?_, ?_, ?_, ?_⟩
    · show (PyData.showable (.int n) && PyData.showableAll (dInts r)) = true
      rw [h1, Bool.and_true]
      simp only [PyData.showable, decide_eq_true_eq]
      omega
    · show (PyData.hasDict (.int n) || PyData.hasDictAll (dInts r)) = false
      rw [h2]
      rfl
    · show max (PyData.depth (.int n)) (PyData.depthAll (dInts r)) = 0
      rw [h3]
      rfl
    · show (PyData.leavesShort 13 (.int n) && PyData.leavesShortAll 13 (dInts r)) = true
      rw [h4, Bool.and_true]
      exact decide_eq_true (PyData.shown_int_le (Nat.lt_trans hn (by decide)))
    · show PyData.weight (.int n) + 1 + PyData.weightAll (dInts r) ≤ 40 * (r.length + 1)
      have : PyData.weight (.int n) ≤ 31 := by
        show (if n == 0 then 0 else n.natAbs.log2 + 1) ≤ 31
        split <;> omega
      omega
structure Shows (d : PyData) : Prop where
  s : d.showable = true
  h : d.hasDict = false
  dp : d.depth ≤ 60
  z : d.shown.length ≤ sizeLine
theorem shows_ints {ns : List Int} (h : ∀ n ∈ ns, n.natAbs < 10 ^ 9) (hl : ns.length ≤ 10000) : Shows (.list (dInts ns)) := by
  obtain ⟨h1, h2, h3, h4, h5⟩ := ints_show ns h
  refine ⟨h1, h2, ?_, PyData.shown_fits (B := 13) (by decide) (by decide) (d := .list (dInts ns)) h4 ?_⟩
  · show PyData.depthAll (dInts ns) + 1 ≤ 60
    omega
  · show PyData.weightAll (dInts ns) ≤ 2 ^ 20
    omega
/-! ### the end of a law, by FnG -/
section
variable {P : Program} {w : World} {K : PySem.W.Frag} {mg mb : Str → Option Value} {CX : CXT} {k : Nat} {fa a : Addr} {cs : List (Addr × Addr)} {fd : FuncData} {x : Str} {sp : Sp} {s₁ : Shared} {vs : List Value} {ns : List Int}
/-- the script (where K doesn't hold it) and the tables are tracked at the law's call -/
def hLaw (K : PySem.W.Frag) (T : List Addr) (a : Addr) (ob : Obj) (xs : List V) : Hp := fun b =>
  if b ∈ T then some (.tbl #[]) else if b = a ∧ K.lookup a = none then some (.frz ob (.lst xs)) else none
theorem hLaw_tab {T : List Addr} {ob : Obj} {xs : List V} {b : Addr} (h : b ∈ T) : hLaw K T a ob xs b = some (.tbl #[]) := if_pos h
theorem hLaw_inv {T : List Addr} {ob : Obj} {xs : List V} {b : Addr} {u : HO} (h : hLaw K T a ob xs b = some u) : (b ∈ T ∧ u = .tbl #[]) ∨ (b = a ∧ K.lookup a = none ∧ u = .frz ob (.lst xs)) := by
  unfold hLaw at h
  by_cases hT : b ∈ T
  · rw [if_pos hT] at h
    exact .inl ⟨hT, (Option.some.inj h).symm⟩
  · rw [if_neg hT] at h
    by_cases ha : b = a ∧ K.lookup a = none
    · rw [if_pos ha] at h
      exact .inr ⟨ha.1, ha.2, (Option.some.inj h).symm⟩
    · rw [if_neg ha] at h
      cases h
theorem law_callG (KX : K.In s₁.heap) (hns : s₁.heap.Ns mainGlobals mg) (hb : s₁.heap.Ns builtinsNs mb) (hbb : ∀ x : Str, x ≠ "__name__" → mb x = bootBuiltins x) (hlim : s₁.heap.NoLimit) (hg : s₁.gens = #[])
    (hT : ∀ p ∈ cs, s₁.heap.get? p.2 = some { cls := .none, data := .fields #[] }) (nT : ∀ p ∈ cs, K.lookup p.2 = none) (C : ∀ p ∈ cs, PySem.W.CodeHd s₁.heap p.1 p.2)
    (hbm : ∃ (bm : Addr) (ob : Obj), mg "__builtins__" = some (.ref bm) ∧ bm ≠ builtinsNs ∧ s₁.heap.get? bm = some ob ∧ ob.cls = .type "module" ∧ ob.dict = some builtinsNs ∧ ob.data = .plain)
    (ha : s₁.heap.get? a = some { cls := .type "list", data := .seq vs.toArray }) (hi : IntsAre vs ns) (hl : ns.length ≤ sizeLine) (hr : Room k callerA)
    (F : ∀ base : Heap, K.In base → base.Ns mainGlobals mg → (∀ p ∈ cs, LamX.TabB base mg p.1 p.2) → FnG P w K mg base CX k fa fd [x] sp) (hbind : ∀ (s : Shared) (u : Value), BindsTo s fd ⟨[u], []⟩ [(x, u)])
    (hsp : ∀ H : Hp, (∀ p ∈ cs, H p.2 = some (.tbl #[])) → SqL K H a (ns.map V.int) → sp [.ref a] H (fun v _ => v = .bl true) fun _ _ _ => False)
    (hCX : ∀ H e s', CX [] H s₁ (fun _ _ _ => False) e s' → False) :
    codeAny (model P w) callerA (.call (.ref fa) ⟨[.ref a], []⟩) (fun r s' => r = .ok (.ret (.bool true)) ∧ OldK s₁.heap s'.heap ∧ s'.os = s₁.os ∧ AllBare s'.gens) s₁ := by
  have rv := vals_ints hi
  have lenV := hi.length
  obtain ⟨T, eT⟩ : ∃ T : List Addr, cs.map (·.2) = T := ⟨_, rfl⟩
  have tIn : ∀ p ∈ cs, p.2 ∈ T := fun p hp => by
    rw [← eT]
    exact List.mem_map.mpr ⟨p, hp, rfl⟩
  have tOut : ∀ b, b ∈ T → ∃ p ∈ cs, p.2 = b := fun b h => by
    rw [← eT] at h
    exact List.mem_map.mp h
  have tGet : ∀ b, b ∈ T → s₁.heap.get? b = some { cls := .none, data := .fields #[] } := fun b h => by
    obtain ⟨p, hp, rfl⟩ := tOut b h
    exact hT p hp
  have aOut : a ∉ T := fun z => by
    have q := ha.symm.trans (tGet a z)
    cases q
  obtain ⟨H, eH⟩ : ∃ H : Hp, hLaw K T a { cls := .type "list", data := .seq vs.toArray } (ns.map V.int) = H := ⟨_, rfl⟩
  have inv : ∀ {b : Addr} {u : HO}, H b = some u → (b ∈ T ∧ u = .tbl #[]) ∨ (b = a ∧ K.lookup a = none ∧ u = .frz { cls := .type "list", data := .seq vs.toArray } (.lst (ns.map V.int))) := fun h => by
    rw [← eH] at h
    exact hLaw_inv h
  have hH : ∀ p ∈ cs, H p.2 = some (.tbl #[]) := fun p hp => by
    rw [← eH]
    exact hLaw_tab (tIn p hp)
  have hS : SqL K H a (ns.map V.int) := by
    cases hk : K.lookup a with
    | none => exact .inl (.inr ⟨_, by rw [← eH]; exact (if_neg aOut).trans (if_pos ⟨rfl, hk⟩)⟩)
    | some o =>
      have e := (KX a o hk).symm.trans ha
      cases e
      exact .inr ⟨_, vs.toArray, _, hk, rfl, rfl, rfl, by rw [List.size_toArray, lenV]; exact hl, by simpa using rv⟩
  have hok : HOk P w H s₁.heap := fun b u e => by
    rcases inv e with ⟨h1, rfl⟩ | ⟨rfl, _, rfl⟩
    · exact tGet b h1
    · exact ⟨ha, by rw [List.length_map]; exact hl, vs, _, rv, ha⟩
  -- what is neither the script nor a table isn't tracked
  have off : ∀ {b : Addr} {o : Obj}, s₁.heap.get? b = some o → (∀ us n, o.data ≠ .seq us n) → o.data ≠ .fields #[] → H b = none := fun {b o} e h1 h2 => by
    cases q : H b with
    | none => rfl
    | some u =>
      rcases inv q with ⟨g1, _⟩ | ⟨rfl, _, _⟩
      · rw [tGet b g1] at e
        cases e
        exact absurd rfl h2
      · rw [ha] at e
        cases e
        exact absurd rfl (h1 _ _)
  have nsK : ∀ {b : Addr} {m : Str → Option Value}, s₁.heap.Ns b m → (hidT s₁.heap H).Ns b m := fun {b m} z => by
    obtain ⟨o, es, ep, e, d, r⟩ := z
    exact ⟨o, es, ep, hidT_get e (off e (fun us n y => by rw [d] at y; cases y) fun y => by rw [d] at y; cases y), d, r⟩
  have hKb : K.In (hidT s₁.heap H) := fun b o e => hidT_get (KX b o e) (by
    cases q : H b with
    | none => rfl
    | some u =>
      rcases inv q with ⟨g1, _⟩ | ⟨rfl, g2, _⟩
      · obtain ⟨p, hp, rfl⟩ := tOut b g1
        rw [nT p hp] at e
        cases e
      · rw [g2] at e
        cases e)
  have hM : L2.Mod K mg (hidT s₁.heap H) := ⟨hKb, nsK hns, ⟨mb, nsK hb, hbb⟩, let ⟨mc, h1, h2⟩ := hlim; ⟨mc, nsK h1, h2⟩⟩
  have TB : ∀ p ∈ cs, LamX.TabB (hidT s₁.heap H) mg p.1 p.2 := fun p hp => by
    have hTp := hT p hp
    refine ⟨?_, ?_, fun z => ?_⟩
    · obtain ⟨o, us, file, tf, flags, tg, inF, text, tt, e1, r1, r2, r3, r4⟩ := C p hp
      exact ⟨o, us, file, tf, flags, tg, inF, text, tt, hidT_get e1 (off e1 (fun _ _ z => by rw [r2] at z; cases z) fun z => by
        rw [r2] at z
        cases z
        simp at r3), r1, r2, r3, r4⟩
    · obtain ⟨bm, ob, b1, b2, b3, b4, b5, b6⟩ := hbm
      refine ⟨bm, ob, b1, b2, fun y => ?_, fun y => ?_, hidT_get b3 (off b3 (fun _ _ z => by rw [b6] at z; cases z) fun z => by rw [b6] at z; cases z), b4, b5, b6⟩
      · obtain ⟨o, es, ep, e, hd, _⟩ := hns
        rw [y, e] at b3
        cases b3
        rw [hd] at b6
        cases b6
      · rw [y, hTp] at b3
        cases b3
        cases b6
    · obtain ⟨o, es, ep, e, hd, _⟩ := hns
      rw [z, hTp] at e
      cases e
      cases hd
  have e0 : Env0 P w K mg (hidT s₁.heap H) callerA [] s₁ H := ⟨rfl, hM, fun b o e => of_hidT e, Nat.le_of_eq (hidT_size _ _), trivial, fun b hb => absurd (show b ∈ ([] : List Addr) from hb) (by simp), hok, .of_eq hg⟩
  refine codeAny_mono ((F _ hKb (nsK hns) TB).grun callerA [] s₁ H ⟨[.ref a], []⟩ [.ref a] [.ref a] _ _ rfl hr e0 (hbind s₁ (.ref a)) (.cons rfl .nil) (hsp H hH hS)) fun r s' h => ?_
  match r, h with
  | .error e, h => exact (hCX H e s' h).elim
  | .ok .next, h => exact False.elim h
  | .ok .brk, h => exact False.elim h
  | .ok .cont, h => exact False.elim h
  | .ok (.ret u), h =>
    obtain ⟨v, H', os, bare, un, hok', r', q'⟩ := h
    cases (show v = .bl true from q')
    cases (show u = Value.bool true from r')
    have noF : ∀ b : Addr, b ∉ frs ([] : List Env) := fun b z => nomatch (show b ∈ ([] : List Addr) from z)
    have key : ∀ b o, b ∉ T → s₁.heap.get? b = some o → s'.heap.get? b = some o := fun b o nb e => by
      cases q : H b with
      | none => exact un.keep b o e q (noF b) (fun z => nomatch z)
      | some u =>
        rcases inv q with ⟨g1, _⟩ | ⟨rfl, _, rfl⟩
        · exact absurd g1 nb
        · obtain ⟨e2, _⟩ := hok' b _ (un.frzs b _ _ q)
          rw [ha] at e
          cases e
          exact e2
    have grown : ∀ p ∈ cs, ∃ more : Array Value, s'.heap.get? p.2 = some { cls := .none, data := .fields more } := fun p hp => by
      obtain ⟨more, z⟩ := un.tbls p.2 #[] (hH p hp)
      exact ⟨_, hok' p.2 _ z⟩
    refine ⟨rfl, ⟨fun b o e => ?_, fun b o e => ?_⟩, os, bare⟩
    · by_cases hb : b ∈ T
      · obtain ⟨p, hp, rfl⟩ := tOut b hb
        obtain ⟨more, hm⟩ := grown p hp
        rw [hT p hp] at e
        cases e
        exact .inr (.inl ⟨((C p hp).tab (hT p hp)).isCodeTable, rfl, #[], more, rfl, by rw [Array.empty_append]; exact hm⟩)
      · exact .inl (key b o hb e)
    · by_cases hb : b ∈ T
      · obtain ⟨p, hp, rfl⟩ := tOut b hb
        obtain ⟨more, hm⟩ := grown p hp
        exact ⟨_, hm⟩
      · exact ⟨o, key b o hb e⟩
end
/-- what is known of the law's promise at the head's heap -/
def LawAtG (l : PySem.W.OpenLaw) (w : World) (K : PySem.W.Frag) (CX : CXT) (k n : Nat) (x : Str) (mg : Str → Option Value) (fa : Addr) (h : Heap) : Prop :=
  ∃ (fd : FuncData) (cs : List (Addr × Addr)) (sp : Sp), (∀ p ∈ cs, h.get? p.2 = some { cls := .none, data := .fields #[] }) ∧ (∀ p ∈ cs, K.lookup p.2 = none) ∧ (∀ p ∈ cs, PySem.W.CodeHd h p.1 p.2) ∧ (∀ (s : Shared) (u : Value), BindsTo s fd ⟨[u], []⟩ [(x, u)]) ∧
    (∀ (H : Hp) (a : Addr) (ns : List Int), ns.length ≤ n → (∀ p ∈ cs, H p.2 = some (.tbl #[])) → SqL K H a (ns.map V.int) → sp [.ref a] H (fun v _ => v = .bl true) fun _ _ _ => False) ∧
    ∀ base : Heap, K.In base → base.Ns mainGlobals mg → (∀ p ∈ cs, LamX.TabB base mg p.1 p.2) → FnG l.prog w K mg base CX k fa fd [x] sp
theorem walk_ofG {l : PySem.W.OpenLaw} {n k : Nat} {q : Program} {loose : List Str} {XP : (Str → Option Value) → Heap → Prop} {YP : World → Heap → Prop} {d : DefRec} {CX : World → CXT} {x : Str}
    (hn : l.most = some n) (hn2 : n ≤ sizeLine) (hdf : d.params.defaults = []) (hr : Room k callerA)
    (F : ∀ (w : World) (mg : Str → Option Value) (fa : Addr) (h : Heap), YP w h → h.Ns mainGlobals mg → mg d.name = some (.ref fa) → ∃ K : PySem.W.Frag, K.In h ∧ LawAtG l w K (CX w) k n x mg fa h)
    (hCX : ∀ (w : World) (H : Hp) (s : Shared) (e : Value) (s' : Shared), CX w [] H s (fun _ _ _ => False) e s' → False) :
    PySem.W.WalkO q loose XP YP l.row.toRowW d [] (fun f vs => PySem.call f vs) := by
  refine Att.attach_callB hn hdf fun w s₀ s₁ mg mb fa o pm cd doc a vs ns G Y ho hd hcd hmg hobj hints hlen hbits hg => ?_
  obtain ⟨K, KX, fd, cs, sp, hT, nT, C, hb, hsp, hF⟩ := F w mg fa _ Y G.T.g hmg
  exact law_callG KX G.T.g G.T.b G.T.builtins G.T.nolimit hg hT nT C G.T.bmain hobj hints (Nat.le_trans hlen hn2) hr hF hb (fun H hH hS => hsp H a ns hlen hH hS) fun H e s' => hCX w H s₁ e s'
end TCX
/-! isinstance of a kept exception and a tuple of classes; promises joined. -/
namespace TCX
open PySem PySem.Spec PyProof.Rows L2
section
variable {X : Cx}
def rIsVT (K : PySem.W.Frag) : List V → Hp → VK → Prop := fun xs H Q => ∃ (a D tp : Addr) (cs : List V) (us : List Value) (b : Bool), xs = [.ref a, .ref tp] ∧ H a = some (ExV (.ref D) none a) ∧ ExcC K D ∧ H tp = some (.tup cs) ∧ Paired ClsV cs us ∧ PySem.W.kitAny K (.ref D) us = some b ∧ Q (.bl b) H
theorem call_isVT : CallR X (.builtin "isinstance") (rIsVT X.K) := by
  intro pins s σ H xs us Q I r h
  obtain ⟨a, D, tp, cs, ws, b, rfl, hH, C, hT, k, e, q⟩ := h
  obtain ⟨u1, u2, rfl, r1, r2⟩ := vals2 r
  cases (show u2 = Value.ref tp from r2)
  cases (show u1 = Value.ref a from r1)
  obtain ⟨oe, J⟩ := inst_of I hH
  obtain ⟨_, its, rv, o, h1, h2, n, h3⟩ := (show ObjOk X.prog X.w H s.heap tp (.tup cs) from I.hok tp _ hT)
  have e3 := ClsV.all k rv
  subst e3
  obtain ⟨oc, od, dt, sl⟩ := o
  simp only at h2 h3
  subst h2 h3
  exact PySem.W.kia_tup (PySem.W.handS_kitx_exc C.hg C.hk C.hs C.hd C.ha C.hn C.ht C.hm) I.kIn J h1 e (fun z => nomatch z) fun tk => ⟨.bl b, H, I.tok tk, rfl, q⟩
end
section
variable {P : Program} {w : World} {K : PySem.W.Frag} {mg : Str → Option Value} {base : Heap} {k : Nat} {f : Addr} {fd : FuncData} {ps : List Str} {sp sq : Sp}
/-- a def that lets nothing out may be asked where something might -/
theorem lift0 (F : FnOk P w K mg base CX0 k f fd ps sp) : FnOk P w K mg base (L2.CX P w) k f fd ps sp := by
  refine ⟨F.len, fun A outer s H args us vs Q E hr he hb hv hs => codeAny_mono (F.run A outer s H args us vs Q E hr he hb hv hs) fun r s' hq => ?_⟩
  match r, hq with
  | .error u, hq => exact (show False from hq).elim
  | .ok (.ret u), hq => exact hq
  | .ok .next, hq => exact hq
  | .ok .brk, hq => exact hq
  | .ok .cont, hq => exact hq
/-- two promises of one def -/
theorem both {CX : CXT} (F : FnOk P w K mg base CX k f fd ps sp) (G : FnOk P w K mg base CX k f fd ps sq) : FnOk P w K mg base CX k f fd ps (fun vs H Q E => sp vs H Q E ∨ sq vs H Q E) := by
  refine ⟨fun vs H Q E h => h.elim (F.len vs H Q E) (G.len vs H Q E), fun A outer s H args us vs Q E hr he hb hv hs => ?_⟩
  rcases hs with h | h
  · exact F.run A outer s H args us vs Q E hr he hb hv h
  · exact G.run A outer s H args us vs Q E hr he hb hv h
end
end TCX
namespace TC
open PySem PySem.Spec PyProof.Rows L2 TCX
/-- what _law_word reads of the module -/
structure WTxt (K : PySem.W.Frag) (mg : Str → Option Value) : Prop where
  g : ∀ (i : Nat) {x : Str}, clsN[i]? = some x → mg x = some (.ref (He.ga K x))
  gT : mg "TurnError" = some (.ref (He.ga K "TurnError"))
  gV : mg "ValueError" = none
  gZ : mg "ZeroDivisionError" = none
  gK : mg "KeyError" = none
  gI : mg "IndexError" = none
  gL : mg "LookupError" = none
  is : mg "isinstance" = none
section
variable {P : Program} {w : World} {K : PySem.W.Frag} {mg : Str → Option Value} {base : Heap} {f : Addr} {fd : FuncData}
/-! ### _law_word -/
def spWord (K : PySem.W.Frag) : Sp := fun vs H Q _ => ∃ (a D : Addr) (n : Nat), vs = [.ref a] ∧ H a = some (ExV (.ref D) none a) ∧ KindF K D n ∧ n < 22 ∧ ∀ H', Same H H' → Q (.str (words.getD n "")) H'
theorem scWord : FnScope ["_law_e", "_law_words", "_law_some", "_law_at", "_law_under"] ["_law_e"] (defScope sWord) := ⟨rfl, rfl, rfl, by decide +kernel, rfl, by decide +kernel, by decide +kernel⟩
def bits (n : Nat) : List Bool := (List.range 22).map fun i => i == n
theorem bits_all : ∀ n, n < 22 → (((bits n).map V.bl).countP fun z => eqV z (.bl true)) = 1 ∧ (bits n)[n]? = some true ∧ (∀ m, m < n → (bits n)[m]? = some false) := by decide
theorem words_at : ∀ n, n < 22 → words[n]? = some (words.getD n "") := by decide
theorem ok_word (F : FnP K "_law_word" sWord f fd) (T : WTxt K mg) : FnOk P w K mg base CX0 1 f fd ["_law_e"] (spWord K) := by
  refine F.ok scWord (fun vs H Q E h => ?_) (fun cdv A outer s H vs Q E hr h => ?_)
  · obtain ⟨_, _, _, rfl, _⟩ := h
    rfl
  · obtain ⟨a, D, n, rfl, ha, kd, n22, q⟩ := h
    refine ⟨_, PSs.nox
    (pss_cons (ps_set (i := 1) scWord.nd rfl (.inl rfl) (pe_lst (pa_cons pe_str (pa_cons pe_str (pa_cons pe_str (pa_cons pe_str (pa_cons pe_str (pa_cons pe_str (pa_cons pe_str (pa_cons pe_str (pa_cons pe_str (pa_cons pe_str (pa_cons pe_str pa_nil)))))))))))))
    (C8.pss_cut (ps_set (i := 1) scWord.nd rfl (.inl rfl) (pe_op op_cat (pv 1) (pe_lst (pa_cons pe_str (pa_cons pe_str (pa_cons pe_str (pa_cons pe_str (pa_cons pe_str (pa_cons pe_str (pa_cons pe_str (pa_cons pe_str (pa_cons pe_str (pa_cons pe_str (pa_cons pe_str pa_nil))))))))))))))
    (C8.pss_cut (ps_set (i := 2) scWord.nd rfl (.inl rfl) (pe_lst (pa_cons (pe_callB call_isV (by rfl) T.is (by decide +kernel) (pa_cons (pv 0) (pa_cons (pe_glob (v := .ref (He.ga K "Empty")) (by rfl) (T.g 0 rfl) rfl) pa_nil))) (pa_cons (pe_callB call_isV (by rfl) T.is (by decide +kernel) (pa_cons (pv 0) (pa_cons (pe_glob (v := .ref (He.ga K "NoDeed")) (by rfl) (T.g 1 rfl) rfl) pa_nil))) (pa_cons (pe_callB call_isV (by rfl) T.is (by decide +kernel) (pa_cons (pv 0) (pa_cons (pe_glob (v := .ref (He.ga K "NoHalf")) (by rfl) (T.g 2 rfl) rfl) pa_nil))) (pa_cons (pe_callB call_isV (by rfl) T.is (by decide +kernel) (pa_cons (pv 0) (pa_cons (pe_glob (v := .ref (He.ga K "NoLinking")) (by rfl) (T.g 3 rfl) rfl) pa_nil))) pa_nil))))))
    (C8.pss_cut (ps_set (i := 2) scWord.nd rfl (.inl rfl) (pe_op op_cat (pv 2) (pe_lst (pa_cons (pe_callB call_isV (by rfl) T.is (by decide +kernel) (pa_cons (pv 0) (pa_cons (pe_glob (v := .ref (He.ga K "NoNet")) (by rfl) (T.g 4 rfl) rfl) pa_nil))) (pa_cons (pe_callB call_isV (by rfl) T.is (by decide +kernel) (pa_cons (pv 0) (pa_cons (pe_glob (v := .ref (He.ga K "NoNumber")) (by rfl) (T.g 5 rfl) rfl) pa_nil))) (pa_cons (pe_callB call_isV (by rfl) T.is (by decide +kernel) (pa_cons (pv 0) (pa_cons (pe_glob (v := .ref (He.ga K "NoOffset")) (by rfl) (T.g 6 rfl) rfl) pa_nil))) (pa_cons (pe_callB call_isV (by rfl) T.is (by decide +kernel) (pa_cons (pv 0) (pa_cons (pe_glob (v := .ref (He.ga K "NoQuestion")) (by rfl) (T.g 7 rfl) rfl) pa_nil))) pa_nil)))))))
    (C8.pss_cut (ps_set (i := 2) scWord.nd rfl (.inl rfl) (pe_op op_cat (pv 2) (pe_lst (pa_cons (pe_callB call_isV (by rfl) T.is (by decide +kernel) (pa_cons (pv 0) (pa_cons (pe_glob (v := .ref (He.ga K "NoRow")) (by rfl) (T.g 8 rfl) rfl) pa_nil))) (pa_cons (pe_callB call_isV (by rfl) T.is (by decide +kernel) (pa_cons (pv 0) (pa_cons (pe_glob (v := .ref (He.ga K "NoSize")) (by rfl) (T.g 9 rfl) rfl) pa_nil))) (pa_cons (pe_callB call_isV (by rfl) T.is (by decide +kernel) (pa_cons (pv 0) (pa_cons (pe_glob (v := .ref (He.ga K "NoStanding")) (by rfl) (T.g 10 rfl) rfl) pa_nil))) (pa_cons (pe_callB call_isV (by rfl) T.is (by decide +kernel) (pa_cons (pv 0) (pa_cons (pe_glob (v := .ref (He.ga K "NoTable")) (by rfl) (T.g 11 rfl) rfl) pa_nil))) pa_nil)))))))
    (C8.pss_cut (ps_set (i := 2) scWord.nd rfl (.inl rfl) (pe_op op_cat (pv 2) (pe_lst (pa_cons (pe_callB call_isV (by rfl) T.is (by decide +kernel) (pa_cons (pv 0) (pa_cons (pe_glob (v := .ref (He.ga K "NoText")) (by rfl) (T.g 12 rfl) rfl) pa_nil))) (pa_cons (pe_callB call_isV (by rfl) T.is (by decide +kernel) (pa_cons (pv 0) (pa_cons (pe_glob (v := .ref (He.ga K "NotParted")) (by rfl) (T.g 13 rfl) rfl) pa_nil))) (pa_cons (pe_callB call_isV (by rfl) T.is (by decide +kernel) (pa_cons (pv 0) (pa_cons (pe_glob (v := .ref (He.ga K "NoTree")) (by rfl) (T.g 14 rfl) rfl) pa_nil))) (pa_cons (pe_callB call_isV (by rfl) T.is (by decide +kernel) (pa_cons (pv 0) (pa_cons (pe_glob (v := .ref (He.ga K "NoTriple")) (by rfl) (T.g 15 rfl) rfl) pa_nil))) pa_nil)))))))
    (C8.pss_cut (ps_set (i := 2) scWord.nd rfl (.inl rfl) (pe_op op_cat (pv 2) (pe_lst (pa_cons (pe_callB call_isV (by rfl) T.is (by decide +kernel) (pa_cons (pv 0) (pa_cons (pe_glob (v := .ref (He.ga K "NoWay")) (by rfl) (T.g 16 rfl) rfl) pa_nil))) (pa_cons (pe_callB call_isV (by rfl) T.is (by decide +kernel) (pa_cons (pv 0) (pa_cons (pe_glob (v := .ref (He.ga K "TooWide")) (by rfl) (T.g 17 rfl) rfl) pa_nil))) (pa_cons (pe_callB call_isV (by rfl) T.is (by decide +kernel) (pa_cons (pv 0) (pa_cons (pe_glob (v := .ref (He.ga K "ByNought")) (by rfl) (T.g 18 rfl) rfl) pa_nil))) (pa_cons (pe_callB call_isV (by rfl) T.is (by decide +kernel) (pa_cons (pv 0) (pa_cons (pe_glob (v := .ref (He.ga K "NoName")) (by rfl) (T.g 19 rfl) rfl) pa_nil))) pa_nil)))))))
    (C8.pss_cut (ps_set (i := 2) scWord.nd rfl (.inl rfl) (pe_op op_cat (pv 2) (pe_lst (pa_cons (pe_callB call_isV (by rfl) T.is (by decide +kernel) (pa_cons (pv 0) (pa_cons (pe_glob (v := .ref (He.ga K "NoPlace")) (by rfl) (T.g 20 rfl) rfl) pa_nil))) (pa_cons (pe_callB call_isV (by rfl) T.is (by decide +kernel) (pa_cons (pv 0) (pa_cons (pe_glob (v := .ref (He.ga K "NothingDone")) (by rfl) (T.g 21 rfl) rfl) pa_nil))) pa_nil)))))
    (pss_cons (ps_if (pt_cmpR op_ne (pe_bm PySem.F.plainAttrs_list PySem.F.slot_list_count PySem.F.type_list_count mt_count (pv 2) (pa_cons pe_bl pa_nil)) pe_int (nomark _)) (pss_one (ps_ret pe_str)) pss_nil)
    (pss_cons (ps_set (i := 3) scWord.nd rfl (.inl rfl) (pe_bm PySem.F.plainAttrs_list PySem.F.slot_list_index PySem.F.type_list_index mt_index (pv 2) (pa_cons pe_bl pa_nil)))
    (pss_cons (ps_if (pt_cmpR op_lt (pv 3) pe_int (nomark _)) (pss_one (ps_ret (pe_ifExp (PW.pt (pw_and (pt_val (pe_callB call_isV (by rfl) T.is (by decide +kernel) (pa_cons (pv 0) (pa_cons (pe_glob (v := .ref (He.ga K "TurnError")) (by rfl) T.gT rfl) pa_nil)))) (pw_and1 (pt_val (pe_callB call_isV (by rfl) T.is (by decide +kernel) (pa_cons (pv 0) (pa_cons (pe_bltn (v := .ty "ValueError") (by rfl) T.gV (by decide +kernel) rfl) pa_nil))))))) (pe_ix ix_list (pv 1) (pv 3) (fun _ _ => rfl)) pe_str))) pss_nil)
    (C8.pss_cut (ps_set (i := 4) scWord.nd rfl (.inl rfl) (pe_lst (pa_cons (pe_callB call_isV (by rfl) T.is (by decide +kernel) (pa_cons (pv 0) (pa_cons (pe_bltn (v := .ty "ZeroDivisionError") (by rfl) T.gZ (by decide +kernel) rfl) pa_nil))) (pa_cons (pe_callB call_isV (by rfl) T.is (by decide +kernel) (pa_cons (pv 0) (pa_cons (pe_bltn (v := .ty "KeyError") (by rfl) T.gK (by decide +kernel) rfl) pa_nil))) (pa_cons (pe_callB call_isV (by rfl) T.is (by decide +kernel) (pa_cons (pv 0) (pa_cons (pe_bltn (v := .ty "IndexError") (by rfl) T.gI (by decide +kernel) rfl) pa_nil))) pa_nil)))))
    (C8.pss_cut (ps_expr (pe_bm PySem.F.plainAttrs_list PySem.F.slot_list_append PySem.F.type_list_append mt_append (pv 4) (pa_cons (pe_and (pe_callB call_isV (by rfl) T.is (by decide +kernel) (pa_cons (pv 0) (pa_cons (pe_bltn (v := .ty "LookupError") (by rfl) T.gL (by decide +kernel) rfl) pa_nil))) (pe_one (pe_not (pe_callB call_isVT (by rfl) T.is (by decide +kernel) (pa_cons (pv 0) (pa_cons (pe_tup (pa_cons (pe_bltn (v := .ty "KeyError") (by rfl) T.gK (by decide +kernel) rfl) (pa_cons (pe_bltn (v := .ty "IndexError") (by rfl) T.gI (by decide +kernel) rfl) pa_nil))) pa_nil)))))) pa_nil)))
      (pss_one (ps_ret (pe_ifExp (PW.pt (pw_and (pt_val (pe_ix ix_list (pv 4) (pe_op op_sub (pv 3) pe_int) (fun _ _ => rfl))) (pw_and1 (pt_not (pt_val (pe_callB call_isV (by rfl) T.is (by decide +kernel) (pa_cons (pv 0) (pa_cons (pe_glob (v := .ref (He.ga K "TurnError")) (by rfl) T.gT rfl) pa_nil)))))))) (pe_ix ix_list (pv 1) (pv 3) (fun _ _ => rfl)) pe_str)))))))))))))))), ?_⟩
    refine ⟨by show 11 ≤ sizeLine; decide, fun l0 hl0 => ?_⟩
    have s0 := same_upd (o := .lst ((words.take 11).map V.str)) hl0
    refine ⟨fun σ H1 => ∃ pw, σ = [some (.ref a), some (.ref pw), none, none, none] ∧ H1 pw = some (.lst (words.map V.str)) ∧ Same H H1, ?_, fun σ1 H1 h1 => ?_⟩
    · refine ⟨_, rfl, by show 11 ≤ sizeLine; decide, fun l1 hl1 => ?_⟩
      have s1 := same_upd (o := .lst ((words.drop 11).map V.str)) hl1
      refine ⟨_, _, _, _, rfl, rfl, s1 _ _ upd_same, upd_same, by show 22 ≤ sizeLine; decide, fun p hp => ?_⟩
      exact ⟨p, rfl, upd_same, (s0.trans s1).trans (same_upd hp)⟩
    obtain ⟨pw, rfl, hw, sm⟩ := h1
    have ha0 := sm _ _ ha
    refine ⟨fun σ H2 => ∃ ps, σ = [some (.ref a), some (.ref pw), some (.ref ps), none, none] ∧ H2 pw = some (.lst (words.map V.str)) ∧ H2 ps = some (.lst (((bits n).take 4).map V.bl)) ∧ Same H H2, ?_, fun σ2 H2 h2 => ?_⟩
    · refine ⟨_, rfl, a, D, _, _, _, rfl, ha0, kd.ec, fun _ r => r, kd.kits.at 0 rfl, _, rfl, a, D, _, _, _, rfl, ha0, kd.ec, fun _ r => r, kd.kits.at 1 rfl, _, rfl, a, D, _, _, _, rfl, ha0, kd.ec, fun _ r => r, kd.kits.at 2 rfl, _, rfl, a, D, _, _, _, rfl, ha0, kd.ec, fun _ r => r, kd.kits.at 3 rfl, by show 4 ≤ sizeLine; decide, fun l hl => ?_⟩
      exact ⟨l, rfl, (same_upd hl) _ _ hw, upd_same, sm.trans (same_upd hl)⟩
    obtain ⟨ps, rfl, hw, hs, sm⟩ := h2
    have ha1 := sm _ _ ha
    refine ⟨fun σ H3 => ∃ ps, σ = [some (.ref a), some (.ref pw), some (.ref ps), none, none] ∧ H3 pw = some (.lst (words.map V.str)) ∧ H3 ps = some (.lst (((bits n).take 8).map V.bl)) ∧ Same H H3, ?_, fun σ2 H3 h2 => ?_⟩
    · refine ⟨_, rfl, _, rfl, a, D, _, _, _, rfl, ha1, kd.ec, fun _ r => r, kd.kits.at 4 rfl, _, rfl, a, D, _, _, _, rfl, ha1, kd.ec, fun _ r => r, kd.kits.at 5 rfl, _, rfl, a, D, _, _, _, rfl, ha1, kd.ec, fun _ r => r, kd.kits.at 6 rfl, _, rfl, a, D, _, _, _, rfl, ha1, kd.ec, fun _ r => r, kd.kits.at 7 rfl, by show 4 ≤ sizeLine; decide, fun l hl => ?_⟩
      have s1 := same_upd (o := .lst (([4 == n, 5 == n, 6 == n, 7 == n] : List Bool).map V.bl)) hl
      refine ⟨_, _, _, _, rfl, rfl, s1 _ _ hs, upd_same, by show 8 ≤ sizeLine; decide, fun p hp => ?_⟩
      exact ⟨p, rfl, (same_upd hp) _ _ (s1 _ _ hw), upd_same, (sm.trans s1).trans (same_upd hp)⟩
    obtain ⟨ps, rfl, hw, hs, sm⟩ := h2
    have ha2 := sm _ _ ha
    refine ⟨fun σ H4 => ∃ ps, σ = [some (.ref a), some (.ref pw), some (.ref ps), none, none] ∧ H4 pw = some (.lst (words.map V.str)) ∧ H4 ps = some (.lst (((bits n).take 12).map V.bl)) ∧ Same H H4, ?_, fun σ2 H4 h2 => ?_⟩
    · refine ⟨_, rfl, _, rfl, a, D, _, _, _, rfl, ha2, kd.ec, fun _ r => r, kd.kits.at 8 rfl, _, rfl, a, D, _, _, _, rfl, ha2, kd.ec, fun _ r => r, kd.kits.at 9 rfl, _, rfl, a, D, _, _, _, rfl, ha2, kd.ec, fun _ r => r, kd.kits.at 10 rfl, _, rfl, a, D, _, _, _, rfl, ha2, kd.ec, fun _ r => r, kd.kits.at 11 rfl, by show 4 ≤ sizeLine; decide, fun l hl => ?_⟩
      have s1 := same_upd (o := .lst (([8 == n, 9 == n, 10 == n, 11 == n] : List Bool).map V.bl)) hl
      refine ⟨_, _, _, _, rfl, rfl, s1 _ _ hs, upd_same, by show 12 ≤ sizeLine; decide, fun p hp => ?_⟩
      exact ⟨p, rfl, (same_upd hp) _ _ (s1 _ _ hw), upd_same, (sm.trans s1).trans (same_upd hp)⟩
    obtain ⟨ps, rfl, hw, hs, sm⟩ := h2
    have ha3 := sm _ _ ha
    refine ⟨fun σ H5 => ∃ ps, σ = [some (.ref a), some (.ref pw), some (.ref ps), none, none] ∧ H5 pw = some (.lst (words.map V.str)) ∧ H5 ps = some (.lst (((bits n).take 16).map V.bl)) ∧ Same H H5, ?_, fun σ2 H5 h2 => ?_⟩
    · refine ⟨_, rfl, _, rfl, a, D, _, _, _, rfl, ha3, kd.ec, fun _ r => r, kd.kits.at 12 rfl, _, rfl, a, D, _, _, _, rfl, ha3, kd.ec, fun _ r => r, kd.kits.at 13 rfl, _, rfl, a, D, _, _, _, rfl, ha3, kd.ec, fun _ r => r, kd.kits.at 14 rfl, _, rfl, a, D, _, _, _, rfl, ha3, kd.ec, fun _ r => r, kd.kits.at 15 rfl, by show 4 ≤ sizeLine; decide, fun l hl => ?_⟩
      have s1 := same_upd (o := .lst (([12 == n, 13 == n, 14 == n, 15 == n] : List Bool).map V.bl)) hl
      refine ⟨_, _, _, _, rfl, rfl, s1 _ _ hs, upd_same, by show 16 ≤ sizeLine; decide, fun p hp => ?_⟩
      exact ⟨p, rfl, (same_upd hp) _ _ (s1 _ _ hw), upd_same, (sm.trans s1).trans (same_upd hp)⟩
    obtain ⟨ps, rfl, hw, hs, sm⟩ := h2
    have ha4 := sm _ _ ha
    refine ⟨fun σ H6 => ∃ ps, σ = [some (.ref a), some (.ref pw), some (.ref ps), none, none] ∧ H6 pw = some (.lst (words.map V.str)) ∧ H6 ps = some (.lst (((bits n).take 20).map V.bl)) ∧ Same H H6, ?_, fun σ2 H6 h2 => ?_⟩
    · refine ⟨_, rfl, _, rfl, a, D, _, _, _, rfl, ha4, kd.ec, fun _ r => r, kd.kits.at 16 rfl, _, rfl, a, D, _, _, _, rfl, ha4, kd.ec, fun _ r => r, kd.kits.at 17 rfl, _, rfl, a, D, _, _, _, rfl, ha4, kd.ec, fun _ r => r, kd.kits.at 18 rfl, _, rfl, a, D, _, _, _, rfl, ha4, kd.ec, fun _ r => r, kd.kits.at 19 rfl, by show 4 ≤ sizeLine; decide, fun l hl => ?_⟩
      have s1 := same_upd (o := .lst (([16 == n, 17 == n, 18 == n, 19 == n] : List Bool).map V.bl)) hl
      refine ⟨_, _, _, _, rfl, rfl, s1 _ _ hs, upd_same, by show 20 ≤ sizeLine; decide, fun p hp => ?_⟩
      exact ⟨p, rfl, (same_upd hp) _ _ (s1 _ _ hw), upd_same, (sm.trans s1).trans (same_upd hp)⟩
    obtain ⟨ps, rfl, hw, hs, sm⟩ := h2
    have ha5 := sm _ _ ha
    refine ⟨fun σ H7 => ∃ ps, σ = [some (.ref a), some (.ref pw), some (.ref ps), none, none] ∧ H7 pw = some (.lst (words.map V.str)) ∧ H7 ps = some (.lst (((bits n).take 22).map V.bl)) ∧ Same H H7, ?_, fun σ2 H7 h2 => ?_⟩
    · refine ⟨_, rfl, _, rfl, a, D, _, _, _, rfl, ha5, kd.ec, fun _ r => r, kd.kits.at 20 rfl, _, rfl, a, D, _, _, _, rfl, ha5, kd.ec, fun _ r => r, kd.kits.at 21 rfl, by show 2 ≤ sizeLine; decide, fun l hl => ?_⟩
      have s1 := same_upd (o := .lst (([20 == n, 21 == n] : List Bool).map V.bl)) hl
      refine ⟨_, _, _, _, rfl, rfl, s1 _ _ hs, upd_same, by show 22 ≤ sizeLine; decide, fun p hp => ?_⟩
      exact ⟨p, rfl, (same_upd hp) _ _ (s1 _ _ hw), upd_same, (sm.trans s1).trans (same_upd hp)⟩
    obtain ⟨ps, rfl, hw, hs, sm⟩ := h2
    have ha7 := sm _ _ ha
    obtain ⟨c1, c2, c3⟩ := bits_all n n22
    have hs2 : H7 ps = some (.lst ((bits n).map V.bl)) := hs
    have fl : ((bits n).map V.bl).all flatV = true := by
      rw [List.all_map]
      exact List.all_eq_true.mpr fun _ _ => rfl
    refine ⟨_, rfl, .inl ⟨rfl, _, SqL.of hs2⟩, ps, _, _, rfl, rfl, SqL.of hs2, rfl, fl, rfl, _, rfl, iteNS (congrArg V.int (by rw [c1]; rfl)) ?_⟩
    refine ⟨_, rfl, .inl ⟨rfl, _, SqL.of hs2⟩, ps, _, _, n, _, rfl, rfl, SqL.of hs2, rfl, fl, by rw [List.getElem?_map, c2]; rfl, rfl, fun m z hm hz => ?_, ?_⟩
    · rw [List.getElem?_map, c3 m hm] at hz
      cases hz
      rfl
    refine ⟨_, rfl, _, 18, rfl, rfl, _, rfl, ?_⟩
    by_cases n18 : n < 18
    · refine iteD1 (by omega) ?_
      refine ⟨_, rfl, a, D, _, _, _, rfl, ha7, kd.ec, fun _ r => r, kd.te, _, rfl, iteD1 n18 ?_⟩
      refine ⟨_, rfl, a, D, _, _, _, rfl, ha7, kd.ec, fun _ r => r, kd.ve, _, rfl, iteD1 n18 ?_⟩
      refine ⟨_, rfl, _, rfl, pw, _, _, _, rfl, rfl, SqL.of hw, atI_nat (by rw [List.getElem?_map, words_at n n22]; rfl), ?_⟩
      exact q _ sm
    refine iteD0 (by omega) ?_
    refine ⟨fun σ H8 => ∃ pu, σ = [some (.ref a), some (.ref pw), some (.ref ps), some (.int n), some (.ref pu)] ∧ H8 pw = some (.lst (words.map V.str)) ∧ H8 pu = some (.lst [.bl (n == 18), .bl (n == 19), .bl (n == 20)]) ∧ Same H H8 ∧ H pu = none, ?_, fun σ3 H8 h3 => ?_⟩
    · refine ⟨_, rfl, a, D, _, _, _, rfl, ha7, kd.ec, fun _ r => r, kd.kz, _, rfl, a, D, _, _, _, rfl, ha7, kd.ec, fun _ r => r, kd.ky, _, rfl, a, D, _, _, _, rfl, ha7, kd.ec, fun _ r => r, kd.ki, by show 3 ≤ sizeLine; decide, fun l hl => ?_⟩
      exact ⟨l, rfl, (same_upd hl) _ _ hw, upd_same, sm.trans (same_upd hl), sm.free hl⟩
    obtain ⟨pu, rfl, hw8, hu8, sm8, fu⟩ := h3
    have ha8 := sm8 _ _ ha
    have nu : pw ≠ pu := fun z => by
      rw [z, hu8] at hw8
      cases hw8
    have tail : ∀ (H9 : Hp) (b3 : Bool), H9 pw = some (.lst (words.map V.str)) → H9 pu = some (.lst [.bl (n == 18), .bl (n == 19), .bl (n == 20), .bl b3]) → Same H H9 → (n = 21 → b3 = true) → (∃ b3, H9 pu = some (.lst [.bl (n == 18), .bl (n == 19), .bl (n == 20), .bl b3]) ∧ (n = 21 → b3 = true)) := fun H9 b3 _ h _ z => ⟨b3, h, z⟩
    refine ⟨fun σ H9 => σ = [some (.ref a), some (.ref pw), some (.ref ps), some (.int n), some (.ref pu)] ∧ H9 pw = some (.lst (words.map V.str)) ∧ Same H H9 ∧ ∃ b3, H9 pu = some (.lst [.bl (n == 18), .bl (n == 19), .bl (n == 20), .bl b3]) ∧ (n = 21 → b3 = true), ?_, fun σ4 H9 h4 => ?_⟩
    · refine ⟨_, rfl, .inl ⟨rfl, _, SqL.of hu8⟩, _, rfl, a, D, _, _, _, rfl, ha8, kd.ec, fun _ r => r, kd.kl, _, rfl, ?_⟩
      refine ite2 (fun z => ?_) fun z => ?_
      · refine ⟨_, rfl, by show 2 ≤ sizeLine; decide, fun tp htp => ?_⟩
        have s9 := same_upd (o := .tup [.ty "KeyError", .ty "IndexError"]) htp
        refine ⟨a, D, tp, _, _, _, rfl, s9 _ _ ha8, kd.ec, upd_same, .cons (.ty _) (.cons (.ty _) .nil), kd.kt, _, rfl, ?_⟩
        refine ⟨pu, _, _, rfl, rfl, s9 _ _ hu8, by show 3 < sizeLine; decide, rfl, ?_, ?_, _, upd_same, fun e => ?_⟩
        · rw [upd_ne nu]
          exact s9 _ _ hw8
        · intro b o e
          rw [upd_ne (ne_of_none e fu)]
          exact s9 _ _ (sm8 _ _ e)
        · subst e
          rfl
      · refine ⟨pu, _, _, rfl, rfl, hu8, by show 3 < sizeLine; decide, rfl, ?_, ?_, _, upd_same, fun e => ?_⟩
        · rw [upd_ne nu]
          exact hw8
        · intro b o e
          rw [upd_ne (ne_of_none e fu)]
          exact sm8 _ _ e
        · exact absurd (decide_eq_true (show 19 ≤ n by omega)) z
    obtain ⟨rfl, hw9, sm9, b3, hu9, hb3⟩ := h4
    have ha9 := sm9 _ _ ha
    have ix : atI [V.bl (n == 18), V.bl (n == 19), V.bl (n == 20), V.bl b3] ((n : Int) - 18) = some (.bl true) := by
      have : n = 18 ∨ n = 19 ∨ n = 20 ∨ n = 21 := by omega
      rcases this with rfl | rfl | rfl | rfl
      · exact atI_nat (j := 0) rfl
      · exact atI_nat (j := 1) rfl
      · exact atI_nat (j := 2) rfl
      · rw [hb3 rfl]; exact atI_nat (j := 3) rfl
    refine ⟨_, rfl, _, rfl, _, 18, rfl, rfl, pu, _, _, _, rfl, rfl, SqL.of hu9, ix, true, rfl, iteT ?_⟩
    refine ⟨_, rfl, a, D, _, _, _, rfl, ha9, kd.ec, fun _ r => r, kd.te, _, rfl, ?_⟩
    rw [decide_eq_false n18]
    refine iteT ?_
    refine ⟨_, rfl, _, rfl, pw, _, _, _, rfl, rfl, SqL.of hw9, atI_nat (by rw [List.getElem?_map, words_at n n22]; rfl), ?_⟩
    exact q _ sm9
end
end TC
namespace TCX
open PySem PySem.Spec PyProof.Rows L2 HT
theorem same_new {H : Hp} {p : Addr} {o : HO} (h : H p = none) : Same H (upd H p o) := fun b x e => by
  rw [upd_ne (ne_of_none e h)]
  exact e
section
variable {X : Cx}
/-- t + u, whatever they hold: some tuple of both -/
def rCatS : R2 := fun x y H Q => ∃ a b xs ys, x = .ref a ∧ y = .ref b ∧ H a = some (.tup xs) ∧ H b = some (.tup ys) ∧ xs.length + ys.length ≤ sizeLine ∧ ∀ p H', Same H H' → H' p = some (.tup (xs ++ ys)) → Q (.ref p) H'
theorem op_catS : OpR X (binaryOp .Add) (rCatS) := by
  intro pins s σ H x y v u Q I rx ry h
  obtain ⟨a, b, xs, ys, rfl, rfl, ha, hb, hz, q⟩ := h
  refine op_catA pins s σ H _ _ v u Q I rx ry ⟨a, b, xs, ys, rfl, rfl, SqT.of ha, SqT.of hb, hz, fun e => ?_, fun _ e => ?_, fun _ _ p hp => ?_⟩
  · subst e
    exact q b H (fun _ _ z => z) hb
  · subst e
    exact q a H (fun _ _ z => z) (by rw [List.append_nil]; exact ha)
  · exact q p _ (same_new hp) upd_same
/-- t[lo:hi], whatever it is: some tuple of the part -/
def rSlS : V → Option Int → Option Int → Hp → VK → Prop := fun x lo hi H Q => ∃ a xs, x = .ref a ∧ H a = some (.tup xs) ∧ ∀ p H', Same H H' → H' p = some (.tup (cutV xs lo hi)) → Q (.ref p) H'
theorem sl_tupS : SlR X (rSlS) := by
  intro pins s σ H x v vl vu lo hi sl Q I rx hs pl pu h
  obtain ⟨a, xs, rfl, hx, q⟩ := h
  refine sl_tupA pins s σ H _ v vl vu lo hi sl Q I rx hs pl pu ⟨a, xs, rfl, SqT.of hx, fun e => ?_, fun _ p hp => ?_⟩
  · refine q a H (fun _ _ z => z) ?_
    unfold cutV
    rw [e.1, e.2]
    simpa using hx
  · exact q p _ (same_new hp) upd_same
end
theorem cut_take {xs : List V} {k : Nat} : cutV xs none (some (k : Int)) = xs.take k := by
  unfold cutV
  rw [sIx_nat, sIx_none]
  show xs.take (min k xs.length) = xs.take k
  by_cases h : k ≤ xs.length
  · rw [Nat.min_eq_left h]
  · rw [Nat.min_eq_right (by omega), List.take_length, List.take_of_length_le (by omega)]
theorem cut_drop {xs : List V} {k : Nat} : cutV xs (some (k : Int)) none = xs.drop k := by
  unfold cutV
  rw [sIx_nat, sIx_none]
  by_cases h : k ≤ xs.length
  · rw [Nat.min_eq_left h, List.take_of_length_le (by rw [List.length_drop]; omega)]
  · rw [Nat.min_eq_right (by omega), List.drop_length, List.drop_of_length_le (by omega)]
    exact List.take_nil
end TCX
/-! slices of a list with a step. -/
namespace TCX
open PySem PySem.Spec PyProof.Rows L2
theorem vals_at {xs : List V} {us : List Value} (h : Vals xs us) : ∀ i : Nat, (xs[i]? = none ∧ us[i]? = none) ∨ ∃ x u, xs[i]? = some x ∧ us[i]? = some u ∧ RelV x u := by
  induction h with
  | nil => exact fun i => .inl ⟨rfl, rfl⟩
  | cons r t ih =>
    intro i
    cases i with
    | zero => exact .inr ⟨_, _, rfl, rfl, r⟩
    | succ i => exact ih i
theorem vals_pick {xs : List V} {us : List Value} (h : Vals xs us) : ∀ is : List Nat, Vals (is.filterMap (xs[·]?)) (is.filterMap (us[·]?))
  | [] => .nil
  | i :: is => by
    rcases vals_at h i with ⟨e1, e2⟩ | ⟨x, u, e1, e2, r⟩
    · rw [List.filterMap_cons, List.filterMap_cons, e1, e2]
      exact vals_pick h is
    · rw [List.filterMap_cons, List.filterMap_cons, e1, e2]
      exact .cons r (vals_pick h is)
/-- the items of xs[lo:hi:st] -/
def stepV (xs : List V) (lo hi st : Option Int) : List V := (sliceRange (sliceBounds lo hi st xs.length).1 (sliceBounds lo hi st xs.length).2.1 (sliceBounds lo hi st xs.length).2.2).filterMap (xs[·]?)
section
variable {X : Cx} {e : Expr} {te : TE} {lo hi : Option Expr} {se : Expr} {tl th ts : TO} {pos p2 : Pos}
def tSl3 (K : PySem.W.Frag) (te : TE) (tl th ts : TO) : TE := fun σ H Q => te σ H fun x H1 => tl σ H1 fun l H2 => th σ H2 fun u H3 => ts σ H3 fun c H4 => ∃ a xs, x = .ref a ∧ SqL K H4 a xs ∧ c ≠ some 0 ∧ (stepV xs l u c).length ≤ sizeLine ∧ ∀ p, H4 p = none → Q (.ref p) (upd H4 p (.lst (stepV xs l u c)))
theorem pe_slice3 (he : PE X e te) (hl : PO X lo tl) (hu : PO X hi th) (hs : PO X (some se) ts) : PE X (.Subscript e (.Slice lo hi (some se) p2) pos) (tSl3 X.K te tl th ts) := by
  refine ⟨fun pins s σ H Q I h => ?_⟩
  refine Subscript_ (thn (he.run pins s σ H _ I h) fun v s1 ⟨x, H1, I1, r1, q1⟩ => ?_)
  refine wpAny_Slice (thn (hl.run pins s1 σ H1 _ I1 q1) fun vl s2 ⟨l, H2, I2, pl, q2⟩ => thn (hu.run pins s2 σ H2 _ I2 q2) fun vu s3 ⟨u, H3, I3, pu, q3⟩ => thn (hs.run pins s3 σ H3 _ I3 q3) fun vs s4 ⟨c, H4, I4, ps, q4⟩ => ?_)
  obtain ⟨a, xs, rfl, hx, hc, hz, q⟩ := q4
  have I5 : Inv X pins σ H4 { s4 with heap := s4.heap.push { cls := .type "slice", data := .fields #[vl, vu, vs] } } := I4.kept (t' := s4.toks) fun b ob q => Heap.get?_push_of_some _ q
  cases r1
  obtain ⟨its, r, ht, hz'⟩ := I5.list hx
  have hlen := r.length
  refine tail_any (ops := [.ref a, .ref s4.heap.objs.size]) (T := "list") ht.isList.typeIs slot_list_getitem.lookup ?_ (by with_unfolding_all rfl)
  refine wpAny_getItem_list_slice ht.isList (Heap.IsSliceOf.new ..) pl pu ps hc ?_ (by rw [List.size_toArray] <;> omega)
  have e : slicePick its.toArray l u c = ((sliceRange (sliceBounds l u c its.length).1 (sliceBounds l u c its.length).2.1 (sliceBounds l u c its.length).2.2).filterMap (its[·]?)).toArray := by
    unfold slicePick
    rw [List.size_toArray]
    simp only [List.getElem?_toArray]
  rw [e, ← hlen]
  refine ⟨.ref _, _, I5.laid (t' := s4.toks) (o := .lst (stepV xs l u c)) (fun b ob q => Heap.get?_push_of_some _ q) (Nat.le_refl _) ?_, rfl, q _ (I5.hok.fresh (Nat.le_refl _))⟩
  exact ⟨hz, _, 0, vals_pick r _, Heap.get?_push_size _ rfl⟩
end
end TCX
namespace TCX
open PySem PySem.Spec PyProof.Rows L2
theorem range_down (n : Nat) (hi : Nat) (h : hi ≤ n) : sliceRange ((n : Int) - 1) ((hi : Int) - 1) (-1) = (List.range (n - hi)).map fun k => n - 1 - k := by
  unfold sliceRange
  by_cases hn : hi < n
  · have e : ((n : Int) - 1 - ((hi : Int) - 1) - -1 - 1) / (- -1) = ((n - hi : Nat) : Int) := by
      rw [show (- -1 : Int) = 1 from rfl, Int.ediv_one]
      omega
    simp only [show ¬ ((-1 : Int) > 0) by decide, if_false, show ((n : Int) - 1 > (hi : Int) - 1) by omega, if_true, e, Int.toNat_natCast]
    refine List.map_congr_left fun k hk => ?_
    have := List.mem_range.mp hk
    omega
  · have e : n - hi = 0 := by omega
    simp only [show ¬ ((-1 : Int) > 0) by decide, if_false, show ¬ ((n : Int) - 1 > (hi : Int) - 1) by omega, e]
    rfl
theorem pick_down {α : Type} (xs : List α) : ∀ k : Nat, k ≤ xs.length → ((List.range k).map fun i => xs.length - 1 - i).filterMap (xs[·]?) = (xs.drop (xs.length - k)).reverse
  | 0, _ => by simp
  | k + 1, h => by
    rw [List.range_succ, List.map_append, List.filterMap_append, pick_down xs k (by omega)]
    have h1 : xs.length - 1 - k < xs.length := by omega
    have e : xs.length - (k + 1) = xs.length - 1 - k := by omega
    rw [e, List.drop_eq_getElem_cons h1, List.reverse_cons]
    have e2 : xs.length - 1 - k + 1 = xs.length - k := by omega
    rw [e2]
    congr 1
    simp [List.getElem?_eq_getElem h1]
/-- xs[::-1] -/
theorem step_rev (xs : List V) : stepV xs none none (some (-1)) = xs.reverse := by
  unfold stepV
  have e : sliceBounds none none (some (-1)) xs.length = ((xs.length : Int) - 1, ((0 : Nat) : Int) - 1, -1) := by
    unfold sliceBounds
    simp
  rw [e, range_down xs.length 0 (Nat.zero_le _), Nat.sub_zero, pick_down xs xs.length (Nat.le_refl _), Nat.sub_self]
  rfl
/-- xs[:0:-1] -/
theorem step_tail (xs : List V) : stepV xs none (some 0) (some (-1)) = (xs.drop 1).reverse := by
  unfold stepV
  cases xs with
  | nil => rfl
  | cons x xs =>
    have e : sliceBounds none (some 0) (some (-1)) (x :: xs).length = (((x :: xs).length : Int) - 1, ((1 : Nat) : Int) - 1, -1) := by
      unfold sliceBounds
      simp
      omega
    rw [e, range_down (x :: xs).length 1 (by simp), pick_down (x :: xs) _ (by omega)]
    have e2 : (x :: xs).length - ((x :: xs).length - 1) = 1 := by simp
    rw [e2]
end TCX
/-! dicts from whole numbers to whole numbers, and their pairing with functions. -/
namespace TCX
open PySem PySem.Spec PyProof.Rows L2
def addKey (ks : List Int) (r : Int) : List Int := if r ∈ ks then ks else ks ++ [r]
theorem addKey_len (ks : List Int) (r : Int) : (addKey ks r).length ≤ ks.length + 1 := by
  unfold addKey
  split
  · omega
  · rw [List.length_append, List.length_singleton]
    exact Nat.le_refl _
theorem mem_addKey {ks : List Int} {r s : Int} : s ∈ addKey ks r ↔ s ∈ ks ∨ s = r := by
  unfold addKey
  split
  · rename_i h
    exact ⟨.inl, fun z => z.elim id fun e => e ▸ h⟩
  · simp
theorem inl_ne {a b : Int} (h : a ≠ b) : (Sum.inl a : Key) ≠ Sum.inl b := fun e => h (Sum.inl.inj e)
theorem valV_out {kvs : List (Key × V)} {ks : List Int} {r : Int} (e : kvs.map (·.1) = ks.map (Sum.inl : Int → Key)) (h : r ∉ ks) : valV kvs (Sum.inl r : Key) = none := by
  cases z : valV kvs (Sum.inl r : Key) with
  | none => rfl
  | some v =>
    have m := valV_in z
    rw [e] at m
    obtain ⟨s, hs, es⟩ := List.mem_map.mp m
    exact absurd (Sum.inl.inj es ▸ hs) h
theorem keys_put {kvs : List (Key × V)} {ks : List Int} {r : Int} {v : V} (e : kvs.map (·.1) = ks.map (Sum.inl : Int → Key)) : (putK kvs (Sum.inl r : Key) v).map (·.1) = (addKey ks r).map (Sum.inl : Int → Key) := by
  unfold putK addKey
  by_cases h : r ∈ ks
  · have a : (kvs.any fun kv => decide (kv.1 = (Sum.inl r : Key))) = true := by
      have m : (Sum.inl r : Key) ∈ kvs.map (·.1) := by
        rw [e]
        exact List.mem_map.mpr ⟨r, h, rfl⟩
      obtain ⟨p, hp, ep⟩ := List.mem_map.mp m
      exact List.any_eq_true.mpr ⟨p, hp, decide_eq_true ep⟩
    rw [if_pos a, if_pos h, List.map_map, ← e]
    refine List.map_congr_left fun kv _ => ?_
    show (if kv.1 = (Sum.inl r : Key) then (kv.1, v) else kv).1 = kv.1
    split <;> rfl
  · have a : ¬ (kvs.any fun kv => decide (kv.1 = (Sum.inl r : Key))) = true := by
      rw [valV_any, valV_out e h]
      decide
    rw [if_neg a, if_neg h, List.map_append, List.map_append, e]
    rfl
theorem nd_addKey {ks : List Int} {r : Int} (h : ks.Nodup) : (addKey ks r).Nodup := by
  unfold addKey
  split
  · exact h
  · rename_i z
    rw [List.nodup_append]
    refine ⟨h, by simp, fun a ha b hb => ?_⟩
    rw [List.mem_singleton.mp hb]
    exact fun e => z (e ▸ ha)
theorem dget_in {H : Hp} {d : Addr} {kvs : List (Key × V)} {r : Int} {v : V} (e : H d = some (.dK kvs)) (h : valV kvs (Sum.inl r : Key) = some v) : DGet H d (.int r) (some v) := by
  have z := DGet.k (k := (Sum.inl r : Key)) e
  rw [h] at z
  exact z
theorem dget_out {H : Hp} {d : Addr} {kvs : List (Key × V)} {r : Int} (e : H d = some (.dK kvs)) (h : valV kvs (Sum.inl r : Key) = none) : DGet H d (.int r) none := by
  have z := DGet.k (k := (Sum.inl r : Key)) e
  rw [h] at z
  exact z
theorem len_keys {kvs : List (Key × V)} {ks : List Int} (e : kvs.map (·.1) = ks.map (Sum.inl : Int → Key)) : kvs.length = ks.length := by
  have := congrArg List.length e
  simpa using this
theorem key_at {kvs : List (Key × V)} {ks : List Int} {i : Nat} {k : Key} {v : V} (e : kvs.map (·.1) = ks.map (Sum.inl : Int → Key)) (h : kvs[i]? = some (k, v)) : ∃ r, ks[i]? = some r ∧ k = Sum.inl r := by
  have z : (kvs.map (·.1))[i]? = some k := by
    rw [List.getElem?_map, h]
    rfl
  rw [e, List.getElem?_map] at z
  cases q : ks[i]? with
  | none =>
    rw [q] at z
    cases z
  | some r =>
    rw [q] at z
    exact ⟨r, rfl, (Option.some.inj z).symm⟩
def IntD (H : Hp) (d : Addr) (ks : List Int) (t : Int → Int) : Prop := ∃ kvs, H d = some (.dK kvs) ∧ kvs.map (·.1) = ks.map (Sum.inl : Int → Key) ∧ (∀ r ∈ ks, valV kvs (Sum.inl r : Key) = some (.int (t r))) ∧ ks.Nodup ∧ ∀ r, r ∉ ks → t r = 0
theorem IntD.same {H H' : Hp} {d : Addr} {ks : List Int} {t : Int → Int} (e : Same H H') (h : IntD H d ks t) : IntD H' d ks t := by
  obtain ⟨kvs, h1, h2⟩ := h
  exact ⟨kvs, e _ _ h1, h2⟩
theorem IntD.upd {H : Hp} {d l : Addr} {o : HO} {ks : List Int} {t : Int → Int} (n : d ≠ l) (h : IntD H d ks t) : IntD (L2.upd H l o) d ks t := by
  obtain ⟨kvs, h1, h2⟩ := h
  exact ⟨kvs, by rw [upd_ne n]; exact h1, h2⟩
theorem IntD.imp {H : Hp} {d : Addr} {ks : List Int} {t t' : Int → Int} (h : IntD H d ks t) (e : ∀ r, t r = t' r) : IntD H d ks t' := by
  have : t = t' := funext e
  rw [← this]
  exact h
def setI (t : Int → Int) (r z : Int) : Int → Int := fun s => if s = r then z else t s
theorem putI_ok {H : Hp} {d : Addr} {kvs : List (Key × V)} {ks : List Int} {t : Int → Int} {r z : Int} (ek : kvs.map (·.1) = ks.map (Sum.inl : Int → Key))
    (hv : ∀ r ∈ ks, valV kvs (Sum.inl r : Key) = some (.int (t r))) (nd : ks.Nodup) (out : ∀ r, r ∉ ks → t r = 0) :
    IntD (upd H d (.dK (putK kvs (Sum.inl r : Key) (.int z)))) d (addKey ks r) (setI t r z) := by
  refine ⟨_, upd_same, keys_put ek, fun s hs => ?_, nd_addKey nd, fun s hs => ?_⟩
  · rw [valV_put]
    by_cases es : s = r
    · rw [es, if_pos rfl]
      show some (V.int z) = some (V.int (if r = r then z else t r))
      rw [if_pos rfl]
    · have hs' : s ∈ ks := (mem_addKey.mp hs).resolve_right es
      rw [if_neg (inl_ne es), hv s hs']
      show _ = some (V.int (if s = r then z else t s))
      rw [if_neg es]
  · have h1 : s ∉ ks := fun z => hs (mem_addKey.mpr (.inl z))
    have h2 : s ≠ r := fun z => hs (mem_addKey.mpr (.inr z))
    show (if s = r then z else t s) = 0
    rw [if_neg h2, out s h1]
theorem valV_get : ∀ {kvs : List (Key × V)} {i : Nat} {k : Key} {v : V}, (kvs.map (·.1)).Nodup → kvs[i]? = some (k, v) → valV kvs k = some v
  | [], i, k, v, _, h => by simp at h
  | p :: kvs, 0, k, v, _, h => by
    have e : p = (k, v) := by simpa using h
    rw [e]
    exact valV_pos rfl
  | p :: kvs, i + 1, k, v, nd, h => by
    have h' : kvs[i]? = some (k, v) := by simpa using h
    have n := List.nodup_cons.mp nd
    rw [valV_neg fun e => n.1 (by
      show p.1 ∈ _
      rw [e]
      exact List.mem_map.mpr ⟨_, List.mem_of_getElem? h', rfl⟩)]
    exact valV_get n.2 h'
theorem int_at {kvs : List (Key × V)} {ks : List Int} {t : Int → Int} {i : Nat} {x y : V} (e2 : kvs.map (·.1) = ks.map (Sum.inl : Int → Key)) (e3 : ∀ r ∈ ks, valV kvs (Sum.inl r : Key) = some (.int (t r))) (nd : ks.Nodup)
    (hx : (kvs[i]?.map fun kv => kV kv.1) = some x) (hy : (kvs[i]?.map Prod.snd) = some y) : ∃ r, ks[i]? = some r ∧ x = .int r ∧ y = .int (t r) := by
  cases e : kvs[i]? with
  | none =>
    rw [e] at hx
    cases hx
  | some kv =>
    obtain ⟨k, v⟩ := kv
    rw [e] at hx hy
    obtain ⟨r, hr, rfl⟩ := key_at e2 e
    have ndk : (kvs.map (·.1)).Nodup := by
      rw [e2]
      exact List.pairwise_map.mpr (nd.imp fun {a b} z => inl_ne z)
    have hv := valV_get ndk e
    rw [e3 r (List.mem_of_getElem? hr)] at hv
    refine ⟨r, hr, (Option.some.inj hx).symm, ?_⟩
    rw [Option.some.inj hv]
    exact (Option.some.inj hy).symm
/-- the pairing of a dict with a function -/
def pairI (ks : List Int) (t g : Int → Int) : Int := (ks.map fun r => t r * g r).sum
theorem pair_congr {ks : List Int} {t t' g : Int → Int} (h : ∀ r ∈ ks, t r = t' r) : pairI ks t g = pairI ks t' g := by
  unfold pairI
  congr 1
  exact List.map_congr_left fun r hr => by rw [h r hr]
theorem pair_set : ∀ {ks : List Int} {t g : Int → Int} {r z : Int}, ks.Nodup → r ∈ ks → pairI ks (setI t r z) g = pairI ks t g + (z - t r) * g r
  | [], _, _, _, _, _, h => by cases h
  | a :: ks, t, g, r, z, nd, h => by
    have n := List.nodup_cons.mp nd
    show setI t r z a * g a + pairI ks (setI t r z) g = (t a * g a + pairI ks t g) + (z - t r) * g r
    by_cases e : a = r
    · subst e
      rw [pair_congr (t := setI t a z) (t' := t) fun s hs => if_neg fun (e : s = a) => n.1 (e ▸ hs)]
      show (if a = a then z else t a) * g a + _ = _
      rw [if_pos rfl, Int.sub_mul]
      omega
    · have hr : r ∈ ks := (List.mem_cons.mp h).resolve_left fun z => e z.symm
      rw [pair_set n.2 hr]
      show (if a = r then z else t a) * g a + _ = _
      rw [if_neg e]
      omega
theorem pair_put {ks : List Int} {t g : Int → Int} {r c : Int} (nd : ks.Nodup) (out : ∀ s, s ∉ ks → t s = 0) : pairI (addKey ks r) (setI t r (t r + c)) g = pairI ks t g + c * g r := by
  unfold addKey
  split
  · rename_i h
    rw [pair_set nd h]
    congr 1
    congr 1
    omega
  · rename_i h
    have e : pairI (ks ++ [r]) (setI t r (t r + c)) g = pairI ks (setI t r (t r + c)) g + setI t r (t r + c) r * g r := by
      unfold pairI
      rw [List.map_append, List.sum_append]
      show _ + (setI t r (t r + c) r * g r + 0) = _
      rw [Int.add_zero]
    rw [e, pair_congr (t := setI t r (t r + c)) (t' := t) fun s hs => if_neg fun (e : s = r) => h (e ▸ hs)]
    show _ + (if r = r then t r + c else t r) * g r = _
    rw [if_pos rfl, out r h]
    simp
/-- one at a number, else 0 -/
def one (u : Int) : Int → Int := fun y => if y = u then 1 else 0
theorem pair_one : ∀ {ks : List Int} {t : Int → Int} {u : Int}, ks.Nodup → (∀ s, s ∉ ks → t s = 0) → pairI ks t (one u) = t u
  | [], t, u, _, out => by
    rw [out u (by simp)]
    rfl
  | a :: ks, t, u, nd, out => by
    have n := List.nodup_cons.mp nd
    show t a * one u a + pairI ks t (one u) = t u
    by_cases e : a = u
    · subst e
      have z : pairI ks t (one a) = 0 := by
        unfold pairI
        have : (ks.map fun r => t r * one a r) = ks.map fun _ => (0 : Int) := List.map_congr_left fun r hr => by
          unfold one
          rw [if_neg fun (e : r = a) => n.1 (e ▸ hr), Int.mul_zero]
        rw [this]
        clear this n nd out
        induction ks with
        | nil => rfl
        | cons b ks ih => simpa using ih
      rw [z]
      unfold one
      rw [if_pos rfl]
      omega
    · have z : pairI ks t (one u) = setI t a 0 u := by
        rw [pair_congr (t := t) (t' := setI t a 0) fun s hs => by
          unfold setI
          rw [if_neg fun (e : s = a) => n.1 (e ▸ hs)]]
        refine pair_one n.2 fun s hs => ?_
        unfold setI
        split
        · rfl
        · rename_i h
          exact out s fun m => (List.mem_cons.mp m).elim h hs
      rw [z]
      unfold setI one
      rw [if_neg e, if_neg fun x => e x.symm]
      omega
/-- a dict known by its pairing; its keys within bounds -/
def IntP (H : Hp) (d : Addr) (lo hi : Int) (X : (Int → Int) → Int) : Prop := ∃ ks t, IntD H d ks t ∧ (∀ g, pairI ks t g = X g) ∧ ∀ r ∈ ks, lo ≤ r ∧ r ≤ hi
theorem IntP.same {H H' : Hp} {d : Addr} {lo hi : Int} {X : (Int → Int) → Int} (e : Same H H') (h : IntP H d lo hi X) : IntP H' d lo hi X := by
  obtain ⟨ks, t, h1, h2⟩ := h
  exact ⟨ks, t, h1.same e, h2⟩
/-- as many keys as there are numbers between the bounds, at most -/
theorem nodup_len {lo : Int} : ∀ (n : Nat) {ks : List Int}, ks.Nodup → (∀ r ∈ ks, lo ≤ r ∧ r < lo + n) → ks.length ≤ n
  | 0, [], _, _ => Nat.le_refl _
  | 0, a :: ks, _, h => by
    have := h a (by simp)
    omega
  | n + 1, ks, nd, h => by
    have hl : (ks.filter fun r => decide (r ≠ lo + n)).length ≤ n := by
      refine nodup_len (lo := lo) n (nd.filter _) fun r hr => ?_
      obtain ⟨m, e⟩ := List.mem_filter.mp hr
      have := h r m
      have e' : r ≠ lo + n := by simpa using e
      omega
    have e : ks.length ≤ (ks.filter fun r => decide (r ≠ lo + n)).length + 1 := by
      clear hl h
      induction ks with
      | nil => simp
      | cons a ks ih =>
        have n2 := List.nodup_cons.mp nd
        by_cases ea : a = lo + n
        · have : (ks.filter fun r => decide (r ≠ lo + n)) = ks := List.filter_eq_self.mpr fun r hr => decide_eq_true fun e => n2.1 (by rw [ea, ← e]; exact hr)
          rw [List.filter_cons, if_neg (by rw [decide_eq_false (by simpa using ea)]; exact Bool.false_ne_true), this]
          exact Nat.le_refl _
        · rw [List.filter_cons, if_pos (decide_eq_true ea), List.length_cons, List.length_cons]
          exact Nat.succ_le_succ (ih n2.2)
    omega
end TCX
/-! the mathematics of many sizes joined from the left. -/
namespace TCX
/-- h at a, a + 2, .. : n of them, summed -/
def runS (h : Int → Int) (a : Int) : Nat → Int
  | 0 => 0
  | n + 1 => h a + runS h (a + 2) n
theorem runS_add (h : Int → Int) : ∀ (n m : Nat) (a : Int), runS h a (n + m) = runS h a n + runS h (a + 2 * n) m
  | 0, m, a => by
    rw [Nat.zero_add]
    show _ = 0 + runS h (a + 2 * ((0 : Nat) : Int)) m
    rw [Int.zero_add]
    congr 1
    omega
  | n + 1, m, a => by
    rw [show n + 1 + m = (n + m) + 1 by omega]
    show h a + runS h (a + 2) (n + m) = h a + runS h (a + 2) n + _
    rw [runS_add h n m (a + 2), show a + 2 + 2 * (n : Int) = a + 2 * ((n + 1 : Nat) : Int) by omega]
    omega
theorem runS_succ (h : Int → Int) (n : Nat) (a : Int) : runS h a (n + 1) = runS h a n + h (a + 2 * n) := by
  rw [runS_add h n 1 a]
  show _ + (_ + 0) = _
  rw [Int.add_zero]
theorem runS_congr {h h' : Int → Int} : ∀ (n : Nat) (a : Int), (∀ i : Nat, i < n → h (a + 2 * i) = h' (a + 2 * i)) → runS h a n = runS h' a n
  | 0, _, _ => rfl
  | n + 1, a, e => by
    show h a + runS h (a + 2) n = h' a + runS h' (a + 2) n
    have e0 := e 0 (by omega)
    rw [show a + 2 * ((0 : Nat) : Int) = a by omega] at e0
    have e1 : runS h (a + 2) n = runS h' (a + 2) n := runS_congr n (a + 2) fun i hi => by
      have z := e (i + 1) (by omega)
      rw [show a + 2 * ((i + 1 : Nat) : Int) = a + 2 + 2 * i by omega] at z
      exact z
    rw [e0, e1]
theorem runS_rev (h : Int → Int) : ∀ (n : Nat) (a : Int), runS (fun y => h (-y)) a n = runS h (-(a + 2 * n) + 2) n
  | 0, _ => rfl
  | n + 1, a => by
    rw [runS_succ, runS_rev h n a]
    show _ = h (-(a + 2 * ((n + 1 : Nat) : Int)) + 2) + runS h (-(a + 2 * ((n + 1 : Nat) : Int)) + 2 + 2) n
    rw [show -(a + 2 * ((n + 1 : Nat) : Int)) + 2 = -(a + 2 * n) by omega]
    omega
theorem runS_zero : ∀ (n : Nat) (a : Int), runS (fun _ => 0) a n = 0
  | 0, _ => rfl
  | n + 1, a => by
    show 0 + runS (fun _ => 0) (a + 2) n = 0
    rw [runS_zero n]
    rfl
theorem runS_addF (h h' : Int → Int) : ∀ (n : Nat) (a : Int), runS (fun y => h y + h' y) a n = runS h a n + runS h' a n
  | 0, _ => rfl
  | n + 1, a => by
    show h a + h' a + runS (fun y => h y + h' y) (a + 2) n = h a + runS h (a + 2) n + (h' a + runS h' (a + 2) n)
    rw [runS_addF h h' n]
    omega
theorem runS_neg (h : Int → Int) : ∀ (n : Nat) (a : Int), runS (fun y => - h y) a n = - runS h a n
  | 0, _ => rfl
  | n + 1, a => by
    show - h a + runS (fun y => - h y) (a + 2) n = - (h a + runS h (a + 2) n)
    rw [runS_neg h n]
    omega
/-- what two sizes join to: the first, and how many -/
def loJ (x s : Int) : Int := if x - s < 0 then -(x - s) else x - s
def manyE (x s : Int) : Nat := (if x ≤ s then x else s).toNat + 1
/-- the sum over what x and s join to -/
def opT (s : Int) (g : Int → Int) : Int → Int := fun x => runS g (loJ x s) (manyE x s)
/-- the sum over the offsets of s -/
def opU (s : Int) (g : Int → Int) : Int → Int := fun x => runS g (x - s) (s.toNat + 1)
def rowT (row : List Int) (g : Int → Int) : Int → Int := row.foldr opT g
def rowU (row : List Int) (g : Int → Int) : Int → Int := row.foldr opU g
/-! ### by offsets -/
def oddF (g : Int → Int) : Int → Int := fun x => if 0 ≤ x then g x else if x = -1 then 0 else - g (-x - 2)
theorem odd_anti (g : Int → Int) (y : Int) : oddF g (-2 - y) = - oddF g y := by
  unfold oddF
  by_cases h : 0 ≤ y
  · rw [if_neg (by omega), if_neg (by omega), if_pos h]
    congr 2
    omega
  · by_cases h1 : y = -1
    · subst h1
      rfl
    · rw [if_pos (by omega), if_neg h, if_neg h1]
      rw [Int.neg_neg]
      congr 1
      omega
theorem anti_run {h : Int → Int} (ha : ∀ y, h (-2 - y) = - h y) (n : Nat) (a : Int) : runS h a n = - runS h (-(a + 2 * n)) n := by
  have e : runS h a n = runS (fun y => - h (-2 - y)) a n := runS_congr n a fun i _ => by
    rw [ha, Int.neg_neg]
  rw [e, runS_neg (fun y => h (-2 - y))]
  congr 1
  have e2 : runS (fun y => h (-2 - y)) a n = runS (fun y => (fun z => h (z - 2)) (-y)) a n := runS_congr n a fun i _ => by
    show h _ = h _
    congr 1
    omega
  rw [e2, runS_rev (fun z => h (z - 2))]
  have sh : ∀ (n : Nat) (b : Int), runS (fun z => h (z - 2)) b n = runS h (b - 2) n := by
    intro n
    induction n with
    | zero => exact fun _ => rfl
    | succ n ih =>
      intro b
      show h (b - 2) + runS (fun z => h (z - 2)) (b + 2) n = h (b - 2) + runS h (b - 2 + 2) n
      rw [ih (b + 2), show b + 2 - 2 = b - 2 + 2 by omega]
  rw [sh]
  congr 1
  omega
theorem anti_half {h : Int → Int} (ha : ∀ y, h (-2 - y) = - h y) (m : Nat) : runS h (-(m : Int)) m = 0 := by
  have e := anti_run ha m (-(m : Int))
  rw [show -(-(m : Int) + 2 * (m : Int)) = -(m : Int) by omega] at e
  omega
theorem opU_odd {s : Int} (hs : 0 ≤ s) (g : Int → Int) (x : Int) : opU s (oddF g) x = oddF (opT s g) x := by
  have pos : ∀ x : Int, 0 ≤ x → opU s (oddF g) x = opT s g x := fun x hx => by
    have same : ∀ (a : Int) (n : Nat), 0 ≤ a → runS (oddF g) a n = runS g a n := fun a n h0 => runS_congr n a fun i _ => by
      unfold oddF
      rw [if_pos (by omega)]
    unfold opU opT loJ manyE
    by_cases h : x - s < 0
    · rw [if_pos h, if_pos (by omega)]
      have e : s.toNat + 1 = (s - x).toNat + (x.toNat + 1) := by omega
      rw [e, runS_add]
      have z := anti_half (odd_anti g) (s - x).toNat
      rw [show -(((s - x).toNat : Nat) : Int) = x - s by omega] at z
      rw [z, Int.zero_add, show x - s + 2 * (((s - x).toNat : Nat) : Int) = -(x - s) by omega]
      exact same _ _ (by omega)
    · rw [if_neg h]
      by_cases h2 : x ≤ s
      · rw [if_pos h2, show x = s by omega]
        exact same _ _ (by omega)
      · rw [if_neg h2]
        exact same _ _ (by omega)
  have anti : opU s (oddF g) x = - opU s (oddF g) (-2 - x) := by
    unfold opU
    rw [anti_run (odd_anti g)]
    congr 2
    omega
  by_cases h : 0 ≤ x
  · rw [pos x h]
    unfold oddF
    rw [if_pos h]
  · rw [anti]
    by_cases h1 : x = -1
    · subst h1
      have z : opU s (oddF g) (-1) = - opU s (oddF g) (-1) := anti
      show - opU s (oddF g) (-1) = 0
      omega
    · rw [pos _ (by omega)]
      unfold oddF
      rw [if_neg h, if_neg h1]
      congr 2
      omega
theorem rowU_odd : ∀ {row : List Int}, (∀ s ∈ row, 0 ≤ s) → ∀ g, rowU row (oddF g) = oddF (rowT row g)
  | [], _, g => rfl
  | s :: row, h, g => by
    funext x
    show opU s (rowU row (oddF g)) x = oddF (opT s (rowT row g)) x
    rw [rowU_odd (fun r hr => h r (List.mem_cons_of_mem _ hr)) g]
    exact opU_odd (h s (by simp)) _ x
theorem rowU_add : ∀ (row : List Int) (g g' : Int → Int), rowU row (fun y => g y + g' y) = fun y => rowU row g y + rowU row g' y
  | [], g, g' => rfl
  | s :: row, g, g' => by
    funext x
    show opU s (rowU row fun y => g y + g' y) x = _
    rw [rowU_add row g g']
    exact runS_addF _ _ _ _
theorem rowU_neg : ∀ (row : List Int) (g : Int → Int), rowU row (fun y => - g y) = fun y => - rowU row g y
  | [], g => rfl
  | s :: row, g => by
    funext x
    show opU s (rowU row fun y => - g y) x = _
    rw [rowU_neg row g]
    exact runS_neg _ _ _
theorem rowU_refl : ∀ {row : List Int}, (∀ s ∈ row, 0 ≤ s) → ∀ (g : Int → Int) (x : Int), rowU row (fun y => g (-y)) x = rowU row g (-x)
  | [], _, g, x => rfl
  | s :: row, h, g, x => by
    show opU s (rowU row fun y => g (-y)) x = opU s (rowU row g) (-x)
    have e : rowU row (fun y => g (-y)) = fun y => rowU row g (-y) := by
      funext y
      exact rowU_refl (fun r hr => h r (List.mem_cons_of_mem _ hr)) g y
    have h0 := h s (by simp)
    rw [e]
    unfold opU
    rw [runS_rev (rowU row g)]
    congr 1
    omega
/-- how often offsets add up to a size less how often to it and 2 more -/
theorem by_offsets {s : Int} {row : List Int} {u : Int} (h : ∀ r ∈ s :: row, 0 ≤ r) (hu : 0 ≤ u) : rowU (s :: row) (one u) 0 - rowU (s :: row) (one (u + 2)) 0 = rowT row (one u) s := by
  have e1 : rowU (s :: row) (one (u + 2)) 0 = rowU (s :: row) (one (-u - 2)) 0 := by
    have z := rowU_refl h (one (-u - 2)) 0
    rw [show (-(0 : Int)) = 0 from rfl] at z
    rw [← z]
    congr 1
    funext y
    unfold one
    by_cases hy : y = u + 2
    · rw [if_pos hy, if_pos (by omega)]
    · rw [if_neg hy, if_neg (by omega)]
  have e2 : oddF (one u) = fun y => one u y + - one (-u - 2) y := by
    funext y
    unfold oddF one
    by_cases h0 : 0 ≤ y
    · rw [if_pos h0, if_neg (show ¬ y = -u - 2 by omega)]
      omega
    · rw [if_neg h0, if_neg (show ¬ y = u by omega)]
      by_cases h1 : y = -1
      · rw [if_pos h1, if_neg (show ¬ y = -u - 2 by omega)]
        rfl
      · rw [if_neg h1]
        by_cases h2 : y = -u - 2
        · rw [if_pos h2, if_pos (by omega)]
          rfl
        · rw [if_neg h2, if_neg (by omega)]
          rfl
  have e3 : rowU (s :: row) (oddF (one u)) 0 = rowU (s :: row) (one u) 0 - rowU (s :: row) (one (-u - 2)) 0 := by
    rw [e2, rowU_add, rowU_neg]
    show _ + - _ = _ - _
    omega
  rw [e1, ← e3, rowU_odd h]
  show opT s (rowT row (one u)) 0 = _
  have h0 := h s (by simp)
  unfold opT loJ manyE
  rw [if_pos h0]
  show runS _ _ 1 = _
  have e : (if 0 - s < 0 then -(0 - s) else 0 - s) = s := by
    split <;> omega
  rw [e]
  show _ + 0 = _
  rw [Int.add_zero]
/-! ### from either end -/
def joinsB (x s y : Int) : Bool := decide ((x + s + y) % 2 = 0) && (decide (loJ x s ≤ y) && decide (y ≤ x + s))
theorem run_one : ∀ (n : Nat) (a u : Int), runS (one u) a n = if (u - a) % 2 = 0 ∧ a ≤ u ∧ u < a + 2 * n then 1 else 0
  | 0, a, u => by
    rw [if_neg (by omega)]
    rfl
  | n + 1, a, u => by
    show one u a + runS (one u) (a + 2) n = _
    rw [run_one n]
    unfold one
    by_cases h : a = u
    · rw [if_pos h, if_neg (by omega), if_pos (by omega)]
      rfl
    · rw [if_neg h]
      by_cases h2 : (u - (a + 2)) % 2 = 0 ∧ a + 2 ≤ u ∧ u < a + 2 + 2 * n
      · rw [if_pos h2, if_pos (by omega)]
        rfl
      · rw [if_neg h2, if_neg (by omega)]
        rfl
/-- the reading by functions that are summed -/
theorem opT_one {s x u : Int} (hs : 0 ≤ s) (hx : 0 ≤ x) (hu : 0 ≤ u) : opT s (one u) x = if (x + s + u) % 2 = 0 ∧ x ≤ s + u ∧ s ≤ x + u ∧ u ≤ x + s then 1 else 0 := by
  unfold opT
  rw [run_one]
  have e : (loJ x s = s - x ∧ (manyE x s : Int) = x + 1 ∧ x ≤ s) ∨ (loJ x s = x - s ∧ (manyE x s : Int) = s + 1 ∧ s ≤ x) := by
    unfold loJ manyE
    by_cases h : x ≤ s
    · refine .inl ⟨?_, ?_, h⟩
      · split <;> omega
      · rw [if_pos h]
        omega
    · refine .inr ⟨?_, ?_, by omega⟩
      · rw [if_neg (by omega)]
      · rw [if_neg h]
        omega
  by_cases h2 : (x + s + u) % 2 = 0 ∧ x ≤ s + u ∧ s ≤ x + u ∧ u ≤ x + s
  · rw [if_pos h2, if_pos (by rcases e with ⟨e1, e2, e3⟩ | ⟨e1, e2, e3⟩ <;> rw [e1, e2] <;> omega)]
  · rw [if_neg h2, if_neg (by rcases e with ⟨e1, e2, e3⟩ | ⟨e1, e2, e3⟩ <;> rw [e1, e2] <;> omega)]
theorem loJ_nn (x s : Int) : 0 ≤ loJ x s := by
  unfold loJ
  split <;> omega
theorem opT_congr {s x : Int} {g g' : Int → Int} (h : ∀ y, 0 ≤ y → g y = g' y) : opT s g x = opT s g' x := by
  have := loJ_nn x s
  exact runS_congr _ _ fun i _ => h _ (by omega)
theorem rowT_congr : ∀ (row : List Int) {g g' : Int → Int}, (∀ y, 0 ≤ y → g y = g' y) → ∀ x, 0 ≤ x → rowT row g x = rowT row g' x
  | [], _, _, h, x, hx => h x hx
  | s :: row, g, g', h, x, hx => opT_congr fun y hy => rowT_congr row h y hy
theorem rowT_zero : ∀ (row : List Int) (x : Int), rowT row (fun _ => 0) x = 0
  | [], _ => rfl
  | s :: row, x => by
    show opT s (rowT row fun _ => 0) x = 0
    have e : rowT row (fun _ => 0) = fun _ => 0 := by
      funext y
      exact rowT_zero row y
    rw [e]
    exact runS_zero _ _
theorem rowT_add : ∀ (row : List Int) (g g' : Int → Int), rowT row (fun y => g y + g' y) = fun y => rowT row g y + rowT row g' y
  | [], g, g' => rfl
  | s :: row, g, g' => by
    funext x
    show opT s (rowT row fun y => g y + g' y) x = _
    rw [rowT_add row g g']
    exact runS_addF _ _ _ _
/-- a sum of functions goes through -/
theorem rowT_run (row : List Int) (G : Int → Int → Int) (y : Int) : ∀ (n : Nat) (a : Int), rowT row (fun w => runS (fun z => G z w) a n) y = runS (fun z => rowT row (G z) y) a n
  | 0, a => rowT_zero row y
  | n + 1, a => by
    show rowT row (fun w => G a w + runS (fun z => G z w) (a + 2) n) y = _
    rw [rowT_add]
    show rowT row (fun w => G a w) y + rowT row (fun w => runS (fun z => G z w) (a + 2) n) y = _
    rw [rowT_run row G y n (a + 2)]
    rfl
theorem rowT_snoc (row : List Int) (s : Int) (g : Int → Int) : rowT (row ++ [s]) g = rowT row (opT s g) := by
  unfold rowT
  rw [List.foldr_append]
  rfl
theorem rowT_back : ∀ {row : List Int}, (∀ s ∈ row, 0 ≤ s) → ∀ {x y : Int}, 0 ≤ x → 0 ≤ y → rowT row (one y) x = rowT row.reverse (one x) y
  | [], _, x, y, _, _ => by
    show one y x = one x y
    unfold one
    by_cases h : x = y
    · rw [if_pos h, if_pos h.symm]
    · rw [if_neg h, if_neg fun e => h e.symm]
  | s :: row, h, x, y, hx, hy => by
    have h0 := h s (by simp)
    have hr : ∀ r ∈ row, 0 ≤ r := fun r hr => h r (List.mem_cons_of_mem _ hr)
    rw [List.reverse_cons, rowT_snoc]
    show runS (rowT row (one y)) (loJ x s) (manyE x s) = _
    have l0 := loJ_nn x s
    rw [runS_congr (h := rowT row (one y)) (h' := fun z => rowT row.reverse (one z) y) _ _ fun i _ => rowT_back hr (by omega) hy]
    rw [← rowT_run row.reverse (fun z w => one z w) y]
    refine rowT_congr _ (fun w hw => ?_) y hy
    have e : runS (fun z => one z w) (loJ x s) (manyE x s) = opT s (one w) x := runS_congr _ _ fun i _ => by
      unfold one
      by_cases e : w = loJ x s + 2 * (i : Int)
      · rw [if_pos e, if_pos e.symm]
      · rw [if_neg e, if_neg fun z => e z.symm]
    rw [e, opT_one h0 hx hw, opT_one h0 hw hx]
    by_cases c : (x + s + w) % 2 = 0 ∧ x ≤ s + w ∧ s ≤ x + w ∧ w ≤ x + s
    · rw [if_pos c, if_pos (by omega)]
    · rw [if_neg c, if_neg (by omega)]
end TCX
/-! name = {k: v for ..}, the name a local: the dict is stored while the comprehension's block still stands. -/
namespace TCA
open PySem PySem.Spec PyProof.Rows L2
section
variable {X : Cx}
theorem sw_dict {kx vx : Expr} {gs : List Comprehension} {scope : Scope} {pos py : Pos} {y : Str} {l : Nat} {env : Env} (hk : env.scope.kind = .function) (hy : env.scope.names.lookup y = some .local) (hl : (py.line == pos.line) = true)
    (ha : (scope.names.any fun (n, k) => n == y && (k == .local || k == .cell)) = false) : swapsWith (.DictComp kx vx gs scope pos) (some (.Name y py)) l env = pure true := by
  have e1 : env.kindOf y = some .local := hy
  have e2 : env.blockKind = .function := by
    unfold Env.blockKind
    rw [hk]
    rfl
  unfold swapsWith
  simp only [e2, e1, ha, Expr.pos, hl]
  rfl
theorem ps_setDc {i : Nat} {y : Str} {py : Pos} {kx vx tg iter : Expr} {ifs : List Expr} {scope : Scope} {own : List (Str × Nat)} {pos spos : Pos} {wi : TI} {g : TG} {tt : TT} {tk tv : TE} (hc : X.calm = true) (hN : X.N.Nodup) (hy : X.N[i]? = some y) (hyl : X.env.scope.names.lookup y = some .local)
    (hsw : swapsWith (.DictComp kx vx [⟨tg, iter, ifs, 0⟩] scope pos) (some (.Name y py)) spos.line X.env = pure true) (hi : PI X tg iter wi) (ok : BlkOk X.N X.env.scope scope own)
    (hg : ∀ (s : Shared) (H : Hp) (C : Addr) (cl : List (Str × Addr)) (fp : List Addr), PG (X.blk s H scope (compEnvC scope cl C X.env) fp) tg g)
    (ht : ∀ (s : Shared) (H : Hp) (C : Addr) (cl : List (Str × Addr)) (fp : List Addr), PTs (X.blk s H scope (compEnvC scope cl C X.env) fp) ifs tt)
    (hk : ∀ (s : Shared) (H : Hp) (C : Addr) (cl : List (Str × Addr)) (fp : List Addr), PE (X.blk s H scope (compEnvC scope cl C X.env) fp) kx tk)
    (hv : ∀ (s : Shared) (H : Hp) (C : Addr) (cl : List (Str × Addr)) (fp : List Addr), PE (X.blk s H scope (compEnvC scope cl C X.env) fp) vx tv)
    (hs : ∀ x, foldedSetIterable iter X.env x = pure x := by intro _; rfl) :
    PS X (.Assign [.Name y py] (.DictComp kx vx [⟨tg, iter, ifs, 0⟩] scope pos) spos) (tAsg (tDc wi g tt tk tv (own.map (·.2))) (gName i)) := by
  refine ⟨fun pins s σ H D I h => ?_⟩
  rw [exec_Assign_Name_used _ _ _ _ hsw]
  refine wpAny_bind (wpAny_standAt (wpAny_bind ?_))
  show wpAny _ X.A (do let _ ← comprehension (.DictComp kx vx [⟨tg, iter, ifs, 0⟩] scope pos) scope X.env (firstIterPos [⟨tg, iter, ifs, 0⟩] pos) newDict false (eval iter X.env) (some (assign (.Name y py) X.env))) _ _ s
  have h' : tDc wi g tt tk tv (own.map (·.2)) σ H (fun x H1 => gName i x σ H1 D.nx) := h
  have core := dc_core (Qf := fun _ s' => SP X pins D .next s') (pos := pos) (pos' := firstIterPos [⟨tg, iter, ifs, 0⟩] pos) (use := some (assign (.Name y py) X.env)) hc hN I hi ok hg ht hk hv hs h' fun d C s' m H' I' q hn fp => by
    show wpAny _ _ (assign (.Name y py) X.env (.ref d)) _ _ _
    refine wpAny_assign_Name (store_ok2 (v := V.ref d) I' hN hy (.inl hyl) rfl (fun s2 I2 ⟨a, sb, ha⟩ => ?_) (.inr hyl))
    obtain ⟨f0, f1, f2, f3, f4, f5⟩ := fp
    have hCa : C ≠ a := by
      rcases ha with z | z
      · rw [z]
        exact f1
      · exact fun e => f4 y a z e.symm
    exact ⟨m, hn.sameBut sb hCa, fun h3 sb3 => ⟨_, H', I2.turned (t' := s2.toks) (fun b o hb e => (sb3.2 b hb).trans e) f0 f1 f3 f4 f5, q⟩⟩
  exact wpAny_bind (thn core fun _ s' hq => wpAny_pure (wpAny_pure hq))
/-! a for over a list or a tuple, whichever it is -/
theorem seqL_at {K : PySem.W.Frag} {H H' : Hp} {a : Addr} {xs : List V} (e : ∀ u, H a = some u → H' a = some u) (h : SqL K H a xs) : SqL K H' a xs := by
  rcases h with (h | ⟨o, h⟩) | h
  · exact .inl (.inl (e _ h))
  · exact .inl (.inr ⟨o, e _ h⟩)
  · exact .inr h
theorem seqT_at {K : PySem.W.Frag} {H H' : Hp} {a : Addr} {xs : List V} (e : ∀ u, H a = some u → H' a = some u) (h : SqT K H a xs) : SqT K H' a xs := by
  rcases h with (h | ⟨o, h⟩) | h
  · exact .inl (.inl (e _ h))
  · exact .inl (.inr ⟨o, e _ h⟩)
  · exact .inr h
def iSeq (K : PySem.W.Frag) (tl : TE) : TI := fun σ H R => tl σ H fun x H1 => ∃ a xs, x = .ref a ∧ (SqL K H1 a xs ∨ SqT K H1 a xs) ∧ ∀ (J : It) (G : Hp → Prop), (∀ H', (∀ u, H1 a = some u → H' a = some u) → G H') → Walk J xs.length G (YAt xs) → R J H1
theorem pi_seq {tg l : Expr} {tl : TE} (hl : PE X l tl) : PI X tg l (iSeq X.K tl) := by
  refine ⟨fun pins s σ H R I h => thn (hl.run pins s σ H _ I h) fun v s1 ⟨x, H1, I1, r1, q1⟩ => ?_⟩
  obtain ⟨a, xs, ex, hq, q⟩ := q1
  subst ex
  cases r1
  have own : ∀ b ∈ [s1.heap.objs.size], FpOk X pins H1 b := fun b hb => by
    rw [List.mem_singleton.mp hb]
    exact I1.fpOk (Nat.le_refl _) (I1.hok.fresh (Nat.le_refl _))
  rcases hq with hq | hq
  · obtain ⟨its, _, pl, _⟩ := I1.list hq
    exact wpAny_pyIter_list pl.isList ⟨s1.heap.objs.size, [s1.heap.objs.size], _, _, H1, rfl, I1.kept (t' := s1.toks) fun b o e => Heap.get?_push_of_some _ e, turn_list a _, ⟨_, Heap.get?_push_size _ rfl, rfl, rfl⟩, own, q _ _ (fun H' e => seqL_at e hq) walk_list⟩
  · obtain ⟨its, _, pl, _⟩ := I1.tuple hq
    exact wpAny_pyIter_tuple (show s1.heap.IsTuple a its.toArray from pl) ⟨s1.heap.objs.size, [s1.heap.objs.size], _, _, H1, rfl, I1.kept (t' := s1.toks) fun b o e => Heap.get?_push_of_some _ e, turn_tuple a _, ⟨_, Heap.get?_push_size _ rfl, rfl, rfl⟩, own, q _ _ (fun H' e => seqT_at e hq) walk_tup⟩
end
end TCA
namespace TC
open PySem PySem.Spec PyProof.Rows L2 TCA TCX
/-- whether v is a whole number from 0 to hi -/
def Sml (K : PySem.W.Frag) (hi : Int) (H : Hp) (v : V) (b : Bool) : Prop := (∃ n : Int, v = .int n ∧ b = (decide (0 ≤ n) && decide (n ≤ hi))) ∨ (b = false ∧ NotInt K H v)
theorem Sml.same {K : PySem.W.Frag} {hi : Int} {H H' : Hp} {v : V} {b : Bool} (h : Sml K hi H v b) (s : Same H H') : Sml K hi H' v b := by
  rcases h with h | ⟨e, h⟩
  · exact .inl h
  · exact .inr ⟨e, h.same s⟩
theorem Sml.int {K : PySem.W.Frag} {hi : Int} {H : Hp} {n : Int} (h0 : 0 ≤ n) (h1 : n ≤ hi) : Sml K hi H (.int n) true := .inl ⟨n, rfl, by rw [decide_eq_true h0, decide_eq_true h1]; rfl⟩
theorem Sml.yes {K : PySem.W.Frag} {hi : Int} {H : Hp} {v : V} (h : Sml K hi H v true) : ∃ n : Int, v = .int n ∧ 0 ≤ n ∧ n ≤ hi := by
  rcases h with ⟨n, rfl, e⟩ | ⟨e, _⟩
  · have := He.ba e.symm
    exact ⟨n, rfl, of_decide_eq_true this.1, of_decide_eq_true this.2⟩
  · cases e
/-- whether v is a row of sizes -/
def RowV (K : PySem.W.Frag) (H : Hp) (v : V) (b : Bool) : Prop := (b = false ∧ ∃ t, TyX K H v t ∧ PySem.W.kitOne K t (.type "list") = some false) ∨
  ∃ (a : Addr) (xs : List V) (bs : List Bool), v = .ref a ∧ H a = some (.lst xs) ∧ Paired (Sml K 12 H) xs bs ∧ b = ((decide (1 ≤ xs.length) && decide (xs.length ≤ 10)) && bs.all id)
theorem psml_same {K : PySem.W.Frag} {hi : Int} {H H' : Hp} (s : Same H H') {xs : List V} {bs : List Bool} (h : Paired (Sml K hi H) xs bs) : Paired (Sml K hi H') xs bs := by
  induction h with
  | nil => exact .nil
  | cons r _ ih => exact .cons (r.same s) ih
theorem RowV.same {K : PySem.W.Frag} {H H' : Hp} {v : V} {b : Bool} (h : RowV K H v b) (s : Same H H') : RowV K H' v b := by
  rcases h with ⟨e, t, h1, h2⟩ | ⟨a, xs, bs, e1, h1, h2, e2⟩
  · exact .inl ⟨e, t, TyX.same h1 s, h2⟩
  · exact .inr ⟨a, xs, bs, e1, s _ _ h1, psml_same s h2, e2⟩
/-- a row of sizes, told -/
structure Row (H : Hp) (a : Addr) (rs : List Int) : Prop where
  at_ : H a = some (.lst (rs.map V.int))
  ne : 1 ≤ rs.length
  le : rs.length ≤ 10
  sz : ∀ s ∈ rs, 0 ≤ s ∧ s ≤ 12
theorem Row.same {H H' : Hp} {a : Addr} {rs : List Int} (h : Row H a rs) (s : Same H H') : Row H' a rs := ⟨s _ _ h.at_, h.ne, h.le, h.sz⟩
theorem RowV.yes {K : PySem.W.Frag} {H : Hp} {v : V} (h : RowV K H v true) : ∃ a rs, v = .ref a ∧ Row H a rs := by
  rcases h with ⟨e, _⟩ | ⟨a, xs, bs, rfl, h1, h2, e⟩
  · cases e
  · obtain ⟨e1, e2⟩ := He.ba e.symm
    obtain ⟨e3, e4⟩ := He.ba e1
    have key : ∀ {xs : List V} {bs : List Bool}, Paired (Sml K 12 H) xs bs → bs.all id = true → ∃ rs : List Int, xs = rs.map V.int ∧ ∀ s ∈ rs, 0 ≤ s ∧ s ≤ 12 := by
      intro xs bs h
      induction h with
      | nil => exact fun _ => ⟨[], rfl, fun s hs => by cases hs⟩
      | @cons x b xs bs r _ ih =>
        intro hb
        have hb' : b = true ∧ bs.all id = true := by simpa using hb
        obtain ⟨rs, rfl, h3⟩ := ih hb'.2
        rw [hb'.1] at r
        obtain ⟨n, rfl, n0, n1⟩ := r.yes
        exact ⟨n :: rs, rfl, fun s hs => (List.mem_cons.mp hs).elim (fun e => e ▸ ⟨n0, n1⟩) (h3 s)⟩
    obtain ⟨rs, rfl, h3⟩ := key h2 e2
    rw [List.length_map] at e3 e4
    exact ⟨a, rs, rfl, h1, of_decide_eq_true e3, of_decide_eq_true e4, h3⟩
theorem Row.rowV {K : PySem.W.Frag} {H : Hp} {a : Addr} {rs : List Int} (h : Row H a rs) : RowV K H (.ref a) true := by
  have key : ∀ rs : List Int, (∀ s ∈ rs, 0 ≤ s ∧ s ≤ 12) → Paired (Sml K 12 H) (rs.map V.int) (rs.map fun _ => true) := by
    intro rs
    induction rs with
    | nil => exact fun _ => .nil
    | cons s rs ih => exact fun h => .cons (Sml.int (h s (by simp)).1 (h s (by simp)).2) (ih fun r hr => h r (List.mem_cons_of_mem _ hr))
  refine .inr ⟨a, _, _, rfl, h.at_, key rs h.sz, ?_⟩
  rw [List.length_map, decide_eq_true h.ne, decide_eq_true h.le]
  simp
section
variable {P : Program} {w : World} {K : PySem.W.Frag} {mg : Str → Option Value} {base : Heap} {f : Addr} {fd : FuncData} {CR CS : Addr}
/-! ### need_row -/
def spNeedRow (K : PySem.W.Frag) (CR CS : Addr) : Sp := fun vs H Q E => ∃ (r t : V) (b1 b2 : Bool), vs = [r, t] ∧ RowV K H r b1 ∧ Sml K 120 H t b2 ∧ (b1 = false → E (.ref CR) none H) ∧ (b1 = true → b2 = false → E (.ref CS) none H) ∧ (b1 = true → b2 = true → Q .non H)
abbrev nNeedRow : List Str := ["row", "to", "size"]
theorem scNeedRow : FnScope nNeedRow ["row", "to"] (defScope sNeedRow) := ⟨rfl, rfl, rfl, by decide +kernel, rfl, by decide +kernel, by decide +kernel⟩
theorem ok_needRow {fW : Addr} {fdW : FuncData} {t1 t2 t3 : Tok} (F : FnP K "need_row" sNeedRow f fd) (GW : FnOk P w K mg base CX0 1 fW fdW ["thing"] (spWhole K)) (bW : L2.Binds K fdW ["thing"] []) (kW : PySem.W.keepIn K (.ref fW) = true) (gW : mg "is_whole" = some (.ref fW))
    (XNoRow : XTxt K mg "NoRow" CR) (XNoSize : XTxt K mg "NoSize" CS) (g10 : mg "MOST_OF_ROW" = some (.int 10 t1)) (g12 : mg "HIGHEST_OF_ROW" = some (.int 12 t2)) (g120 : mg "HIGHEST_END" = some (.int 120 t3)) (gisinstance : mg "isinstance" = none) (glist : mg "list" = none) (glen : mg "len" = none) :
    FnOk P w K mg base (L2.CX P w) 2 f fd ["row", "to"] (spNeedRow K CR CS) := by
  refine F.ok scNeedRow (fun vs H Q E h => ?_) (fun cdv A outer s H vs Q E hr h => ?_)
  · obtain ⟨_, _, _, _, rfl, _⟩ := h
    rfl
  · obtain ⟨r, t, b1, b2, rfl, hrow, ht, q1, q2, q3⟩ := h
    refine ⟨_, pss_cons (ps_if (PW.pt (pw_or (pt_not (pt_val (pe_callB call_isi (by rfl) gisinstance (by decide +kernel) (pa_cons (pv 0) (pa_cons (pe_bltn (v := .ty "list") (by rfl) glist (by decide +kernel) rfl) pa_nil))))) (pw_or1 (pt_not (pt_chain op_le op_le pe_int (pe_callB call_len_seq (by rfl) glen PySem.boot_len (pa_cons (pv 0) pa_nil)) (pe_glob (v := .int 10) (by rfl) g10 ⟨_, rfl⟩)))))) (pss_one (ps_raise rfl (takes_of rfl rfl rfl rfl) (pmk_own PySem.F.excBase_ValueError XNoRow.e XNoRow.g XNoRow.k (raises_own XNoRow.b XNoRow.t) rfl))) pss_nil)
      (pss_cons (ps_for (passes_of rfl) rfl (pi_list (pv 0)) (pg_name (i := 2) scNeedRow.nd rfl (.inl rfl))
        (pss_one (ps_if (PW.pt (pw_or (pt_not (pt_val (pe_call GW hr (by rfl) gW kW bW .nil pass0 (pa_cons (pv 2) pa_nil)))) (pw_or1 (pt_not (pt_chain op_le op_le pe_int (pv 2) (pe_glob (v := .int 12) (by rfl) g12 ⟨_, rfl⟩)))))) (pss_one (ps_raise rfl (takes_of rfl rfl rfl rfl) (pmk_own PySem.F.excBase_ValueError XNoRow.e XNoRow.g XNoRow.k (raises_own XNoRow.b XNoRow.t) rfl))) pss_nil)))
      (pss_one (ps_if (PW.pt (pw_or (pt_not (pt_val (pe_call GW hr (by rfl) gW kW bW .nil pass0 (pa_cons (pv 1) pa_nil)))) (pw_or1 (pt_not (pt_chain op_le op_le pe_int (pv 1) (pe_glob (v := .int 120) (by rfl) g120 ⟨_, rfl⟩)))))) (pss_one (ps_raise rfl (takes_of rfl rfl rfl rfl) (pmk_own PySem.F.excBase_ValueError XNoSize.e XNoSize.g XNoSize.k (raises_own XNoSize.b XNoSize.t) rfl))) pss_nil))), ?_⟩
    rcases hrow with ⟨rfl, ty, h1, h2⟩ | ⟨a, xs, bs, rfl, ha, hp, hb1⟩
    · exact ⟨_, rfl, _, _, _, _, false, rfl, .ty "list", h1, h2, false, rfl, iteT (iteT (q1 rfl))⟩
    · refine ⟨_, rfl, _, _, _, _, true, rfl, .ty "list", .base (.lst ha), kit_ty (by decide +kernel), true, rfl, iteF ?_⟩
      refine ⟨_, rfl, a, _, rfl, .inl (SqL.of ha), 1, xs.length, rfl, rfl, _, rfl, iteB (fun z1 => ?_) fun z1 => ?_⟩
      · refine ⟨xs.length, 10, rfl, rfl, _, rfl, ?_⟩
        by_cases z2 : (xs.length : Int) ≤ 10
        · rw [decide_eq_true z2]
          refine iteF ?_
          have z1' : (1 : Int) ≤ xs.length := of_decide_eq_true z1
          have eb : b1 = bs.all id := by
            rw [hb1, decide_eq_true (by omega), decide_eq_true (by omega)]
            rfl
          clear hb1
          refine ⟨_, rfl, a, rfl, ⟨_, SqL.of ha⟩, for_list (K := K) (a := a) (xs := xs) (fun i σ H' => (∃ y, σ = [some (.ref a), some t, y]) ∧ H' = H ∧ (bs.take i).all id = true) ⟨⟨none, rfl⟩, rfl, rfl⟩ (fun i σ H' _ z => by rw [z.2.1]; exact SqL.of ha) (fun i x σ H' hx z => ?_) (fun σ H' z => ?_)⟩
          · obtain ⟨⟨y, rfl⟩, rfl, hb⟩ := z
            obtain ⟨b, hbi, hs⟩ := paired_at hp i x hx
            have bad : b = false → E (.ref CR) none H' := fun e => q1 (by rw [eb]; subst e; exact all_false hbi)
            rcases hs with ⟨n, rfl, e⟩ | ⟨e, hn⟩
            · refine ⟨_, rfl, .inl ⟨n, rfl, true, rfl, iteF ?_⟩⟩
              refine ⟨_, rfl, 0, n, rfl, rfl, _, rfl, iteB (fun y1 => ?_) fun y1 => ?_⟩
              · refine ⟨n, 12, rfl, rfl, _, rfl, ?_⟩
                rw [y1, Bool.true_and] at e
                cases b with
                | true =>
                  rw [← e]
                  exact iteF ⟨⟨_, rfl⟩, rfl, all_take hb hbi rfl⟩
                | false =>
                  rw [← e]
                  exact iteT (bad rfl)
              · rw [y1, Bool.false_and] at e
                exact ⟨_, rfl, iteT (bad e)⟩
            · exact ⟨_, rfl, .inr ⟨x, rfl, hn, false, rfl, iteT (iteT (bad e))⟩⟩
          · obtain ⟨⟨y, rfl⟩, rfl, hb⟩ := z
            rw [paired_len hp, List.take_length] at hb
            rw [hb] at eb
            rcases ht with ⟨n, rfl, e⟩ | ⟨e, hn⟩
            · refine ⟨_, rfl, .inl ⟨n, rfl, true, rfl, iteF ?_⟩⟩
              refine ⟨_, rfl, 0, n, rfl, rfl, _, rfl, iteB (fun y1 => ?_) fun y1 => ?_⟩
              · refine ⟨n, 120, rfl, rfl, _, rfl, ?_⟩
                rw [y1, Bool.true_and] at e
                cases b2 with
                | true =>
                  rw [← e]
                  exact iteF (q3 eb rfl)
                | false =>
                  rw [← e]
                  exact iteT (q2 eb rfl)
              · rw [y1, Bool.false_and] at e
                exact ⟨_, rfl, iteT (q2 eb e)⟩
            · exact ⟨_, rfl, .inr ⟨t, rfl, hn, false, rfl, iteT (iteT (q2 eb e))⟩⟩
        · rw [decide_eq_false z2]
          exact iteT (q1 (by rw [hb1, decide_eq_false (show ¬ xs.length ≤ 10 by omega), Bool.and_false, Bool.false_and]))
      · have z1' : ¬ (1 : Int) ≤ xs.length := of_decide_eq_false z1
        exact ⟨_, rfl, iteT (q1 (by rw [hb1, decide_eq_false (show ¬ 1 ≤ xs.length by omega), Bool.false_and, Bool.false_and]))⟩
/-! ### ends_of, _law_joints -/
def spEnds : Sp := fun vs H Q _ => ∃ x s : Int, vs = [.int x, .int s] ∧ 0 ≤ x ∧ x ≤ 1000 ∧ 0 ≤ s ∧ s ≤ 1000 ∧ ∀ l, H l = none → Q (.ref l) (upd H l (.lst (upV (loJ x s) (manyE x s))))
abbrev nEnds : List Str := ["one", "other"]
theorem scEnds : FnScope nEnds ["one", "other"] (defScope sEnds) := ⟨rfl, rfl, rfl, by decide +kernel, rfl, by decide +kernel, by decide +kernel⟩
theorem ok_ends (F : FnP K "ends_of" sEnds f fd) (gl : mg "list" = none) (gr : mg "range" = none) (ga : mg "abs" = none) : FnOk P w K mg base CX0 1 f fd ["one", "other"] spEnds := by
  refine F.ok scEnds (fun vs H Q E h => ?_) (fun cdv A outer s H vs Q E hr h => ?_)
  · obtain ⟨_, _, rfl, _⟩ := h
    rfl
  · obtain ⟨x, s, rfl, x0, x1, s0, s1, q⟩ := h
    refine ⟨_, PSs.nox (pss_one (ps_ret (pe_list2 rfl (by rfl) gl (by rfl) gr (pa_cons (pe_callB call_abs (by rfl) ga (by decide +kernel) (pa_cons (pe_op op_sub (pv 0) (pv 1)) pa_nil)) (pa_cons (pe_op op_add (pe_op op_add (pv 0) (pv 1)) pe_int) (pa_cons pe_int pa_nil)))))), ?_⟩
    refine ⟨_, rfl, _, rfl, x, s, rfl, rfl, x - s, rfl, _, rfl, _, rfl, x, s, rfl, rfl, _, 1, rfl, rfl, _, _, manyE x s, rfl, ?_, ?_, ?_, ?_, size2 ?_ ?_, fun p hp => ?_⟩
    · split <;> omega
    · split <;> omega
    · omega
    · omega
    · split <;> omega
    · unfold manyE
      split <;> split <;> omega
    · exact q p hp
abbrev nJoints : List Str := ["_law_one", "_law_other"]
theorem scJoints : FnScope nJoints ["_law_one", "_law_other"] (defScope sJoints) := ⟨rfl, rfl, rfl, by decide +kernel, rfl, by decide +kernel, by decide +kernel⟩
theorem ok_joints (F : FnP K "_law_joints" sJoints f fd) (gl : mg "list" = none) (gr : mg "range" = none) (ga : mg "abs" = none) : FnOk P w K mg base CX0 1 f fd ["_law_one", "_law_other"] spEnds := by
  refine F.ok scJoints (fun vs H Q E h => ?_) (fun cdv A outer s H vs Q E hr h => ?_)
  · obtain ⟨_, _, rfl, _⟩ := h
    rfl
  · obtain ⟨x, s, rfl, x0, x1, s0, s1, q⟩ := h
    refine ⟨_, PSs.nox (pss_one (ps_ret (pe_list2 rfl (by rfl) gl (by rfl) gr (pa_cons (pe_callB call_abs (by rfl) ga (by decide +kernel) (pa_cons (pe_op op_sub (pv 0) (pv 1)) pa_nil)) (pa_cons (pe_op op_add (pe_op op_add (pv 0) (pv 1)) pe_int) (pa_cons pe_int pa_nil)))))), ?_⟩
    refine ⟨_, rfl, _, rfl, x, s, rfl, rfl, x - s, rfl, _, rfl, _, rfl, x, s, rfl, rfl, _, 1, rfl, rfl, _, _, manyE x s, rfl, ?_, ?_, ?_, ?_, size2 ?_ ?_, fun p hp => ?_⟩
    · split <;> omega
    · split <;> omega
    · omega
    · omega
    · split <;> omega
    · unfold manyE
      split <;> split <;> omega
    · exact q p hp
end
end TC
/-! the mathematics of labels and their places. -/
namespace TCX
/-- c is among what x and s join to -/
def inJ (x s c : Int) : Prop := ∃ i : Nat, i < manyE x s ∧ c = loJ x s + 2 * (i : Int)
instance (x s c : Int) : Decidable (inJ x s c) := inferInstanceAs (Decidable (∃ i : Nat, i < manyE x s ∧ c = loJ x s + 2 * (i : Int)))
/-- what there is ahead of c of g, among what x and s join to -/
def lessS (g : Int → Int) (x s c : Int) : Int := runS (fun y => if y < c then g y else 0) (loJ x s) (manyE x s)
def labB : List Int → Int → List Int → Int → Prop
  | [], x, [], n => x = n
  | s :: r, x, c :: l, n => inJ x s c ∧ labB r c l n
  | [], _, _ :: _, _ => False
  | _ :: _, _, [], _ => False
def rankL : List Int → Int → List Int → Int → Int
  | s :: r, x, c :: l, n => lessS (rowT r (one n)) x s c + rankL r c l n
  | _, _, _, _ => 0
theorem runS_nn {h : Int → Int} (h0 : ∀ y, 0 ≤ h y) : ∀ (n : Nat) (a : Int), 0 ≤ runS h a n
  | 0, _ => Int.le_refl _
  | n + 1, a => by
    show 0 ≤ h a + runS h (a + 2) n
    have h1 := h0 a
    have h2 := runS_nn h0 n (a + 2)
    omega
theorem runS_ge {h : Int → Int} (h0 : ∀ y, 0 ≤ h y) : ∀ (n : Nat) (a : Int) (i : Nat), i < n → h (a + 2 * i) ≤ runS h a n
  | 0, _, i, hi => absurd hi (by omega)
  | n + 1, a, 0, hi => by
    show _ ≤ h a + runS h (a + 2) n
    have h2 := runS_nn h0 n (a + 2)
    rw [show a + 2 * ((0 : Nat) : Int) = a by omega]
    omega
  | n + 1, a, i + 1, hi => by
    show _ ≤ h a + runS h (a + 2) n
    have h1 := h0 a
    have h2 := runS_ge h0 n (a + 2) i (by omega)
    rw [show a + 2 * ((i + 1 : Nat) : Int) = a + 2 + 2 * (i : Int) by omega]
    omega
theorem one_nn (n y : Int) : 0 ≤ one n y := by
  unfold one
  split <;> omega
theorem rowT_nn (n : Int) : ∀ (r : List Int) (x : Int), 0 ≤ rowT r (one n) x
  | [], x => one_nn n x
  | s :: r, x => runS_nn (rowT_nn n r) _ _
theorem inJ_nn {x s c : Int} (h : inJ x s c) : 0 ≤ c := by
  obtain ⟨i, _, rfl⟩ := h
  have := loJ_nn x s
  omega
theorem inJ_le {x s c : Int} (hx : 0 ≤ x) (hs : 0 ≤ s) (h : inJ x s c) : c ≤ x + s := by
  obtain ⟨i, hi, rfl⟩ := h
  unfold manyE at hi
  unfold loJ
  split at hi <;> split <;> omega
/-- a label's way is counted -/
theorem lab_pos {n : Int} : ∀ {r : List Int} {x : Int} {l : List Int}, labB r x l n → 0 < rowT r (one n) x
  | [], x, [], h => by
    have h : x = n := h
    show 0 < one n x
    unfold one
    rw [if_pos h]
    decide
  | s :: r, x, c :: l, h => by
    obtain ⟨⟨i, hi, e⟩, h2⟩ := h
    have z := lab_pos h2
    have y := runS_ge (rowT_nn n r) (manyE x s) (loJ x s) i hi
    rw [← e] at y
    exact Int.lt_of_lt_of_le z y
  | [], _, _ :: _, h => absurd h id
  | _ :: _, _, [], h => absurd h id
theorem lab_len {n : Int} : ∀ {r : List Int} {x : Int} {l : List Int}, labB r x l n → l.length = r.length
  | [], x, [], h => rfl
  | s :: r, x, c :: l, h => by
    obtain ⟨_, h2⟩ := h
    rw [List.length_cons, List.length_cons, lab_len h2]
  | [], _, _ :: _, h => absurd h id
  | _ :: _, _, [], h => absurd h id
theorem runS_none {h : Int → Int} : ∀ (n : Nat) (a : Int), (∀ i : Nat, i < n → h (a + 2 * i) = 0) → runS h a n = 0 := fun n a e => by
  rw [← runS_zero n a]
  exact runS_congr n a e
/-- the sum of those below c, as a run -/
theorem less_run (g : Int → Int) (x s : Int) (i : Nat) (hi : i ≤ manyE x s) : lessS g x s (loJ x s + 2 * (i : Int)) = runS g (loJ x s) i := by
  unfold lessS
  obtain ⟨m, e⟩ : ∃ m, manyE x s = i + m := ⟨manyE x s - i, by omega⟩
  rw [e, runS_add]
  have e1 : runS (fun y => if y < loJ x s + 2 * (i : Int) then g y else 0) (loJ x s) i = runS g (loJ x s) i := runS_congr _ _ fun k hk => by
    rw [if_pos (by omega)]
  have e2 : runS (fun y => if y < loJ x s + 2 * (i : Int) then g y else 0) (loJ x s + 2 * (i : Int)) m = 0 := runS_none _ _ fun k hk => by
    rw [if_neg (by omega)]
  rw [e1, e2, Int.add_zero]
/-! ### how many, at most; where none -/
theorem runS_le {h : Int → Int} {B : Int} (hb : ∀ y, h y ≤ B) : ∀ (n : Nat) (a : Int), runS h a n ≤ n * B
  | 0, _ => by
    show (0 : Int) ≤ _
    simp
  | n + 1, a => by
    show h a + runS h (a + 2) n ≤ _
    have h1 := hb a
    have h2 := runS_le hb n (a + 2)
    rw [show ((n + 1 : Nat) : Int) = (n : Int) + 1 by omega, Int.add_mul, Int.one_mul]
    omega
theorem rowT_le {n : Int} : ∀ {r : List Int}, (∀ s ∈ r, 0 ≤ s ∧ s ≤ 12) → ∀ x, rowT r (one n) x ≤ 13 ^ r.length
  | [], _, x => by
    show one n x ≤ 1
    unfold one
    split <;> omega
  | s :: r, h, x => by
    have h1 := h s (by simp)
    have h2 := rowT_le (n := n) (fun y hy => h y (List.mem_cons_of_mem _ hy))
    have z := runS_le h2 (manyE x s) (loJ x s)
    have m : (manyE x s : Int) ≤ 13 := by
      unfold manyE
      split <;> omega
    have p : (0 : Int) ≤ 13 ^ r.length := Int.pow_nonneg (by decide)
    have y := Int.mul_le_mul_of_nonneg_right m p
    show runS (rowT r (one n)) (loJ x s) (manyE x s) ≤ 13 ^ (r.length + 1)
    rw [Int.pow_succ, Int.mul_comm (13 ^ r.length)]
    omega
/-- nothing comes to n from x beyond the sum, or to a number of the other kind -/
theorem rowT_none {n : Int} : ∀ {r : List Int} {x : Int}, 0 ≤ x → (∀ s ∈ r, 0 ≤ s) → (x + r.sum < n ∨ (x + r.sum - n) % 2 = 1) → rowT r (one n) x = 0
  | [], x, _, _, h => by
    show one n x = 0
    unfold one
    rw [if_neg]
    simp only [List.sum_nil] at h
    omega
  | s :: r, x, hx, hs, h => by
    have s0 := hs s (by simp)
    rw [List.sum_cons] at h
    refine runS_none _ _ fun i hi => ?_
    have l0 := loJ_nn x s
    refine rowT_none (by omega) (fun y hy => hs y (List.mem_cons_of_mem _ hy)) ?_
    have c : inJ x s (loJ x s + 2 * (i : Int)) := ⟨i, hi, rfl⟩
    have c1 := inJ_le hx s0 c
    rcases h with h | h
    · exact .inl (by omega)
    · refine .inr ?_
      have e : loJ x s = x - s ∨ loJ x s = s - x := by
        unfold loJ
        split <;> omega
      rcases e with e | e <;> rw [e] <;> omega
end TCX
namespace TC
open PySem PySem.Spec PyProof.Rows L2 TCA TCX
/-- a dict known by its pairing; its keys within bounds, its counts above 0 -/
def IntQ (H : Hp) (d : Addr) (lo hi : Int) (X : (Int → Int) → Int) : Prop := ∃ ks t, IntD H d ks t ∧ (∀ g, pairI ks t g = X g) ∧ ∀ r ∈ ks, (lo ≤ r ∧ r ≤ hi) ∧ 0 < t r
theorem IntQ.same {H H' : Hp} {d : Addr} {lo hi : Int} {X : (Int → Int) → Int} (e : Same H H') (h : IntQ H d lo hi X) : IntQ H' d lo hi X := by
  obtain ⟨ks, t, h1, h2⟩ := h
  exact ⟨ks, t, h1.same e, h2⟩
theorem pos_put {ks : List Int} {t : Int → Int} {r c : Int} (h : ∀ s ∈ ks, 0 < t s) (out : ∀ s, s ∉ ks → t s = 0) (hc : 0 < c) : ∀ s ∈ addKey ks r, 0 < setI t r (t r + c) s := fun s hs => by
  unfold setI
  by_cases e : s = r
  · rw [if_pos e]
    by_cases m : r ∈ ks
    · have := h r m
      omega
    · rw [out r m]
      omega
  · rw [if_neg e]
    exact h s ((mem_addKey.mp hs).resolve_right e)
theorem got {H : Hp} {p : Addr} {ks : List Int} {t : Int → Int} {r : Int} (h : IntD H p ks t) : ∃ o, DGet H p (.int r) o ∧ o.getD (.int 0) = .int (t r) := by
  obtain ⟨kvs, p1, p2, p3, p4, p5⟩ := h
  by_cases hk : r ∈ ks
  · exact ⟨_, dget_in p1 (p3 _ hk), rfl⟩
  · refine ⟨none, dget_out p1 (valV_out p2 hk), ?_⟩
    rw [p5 _ hk]
    rfl
theorem IntD.nd {H : Hp} {p : Addr} {ks : List Int} {t : Int → Int} (h : IntD H p ks t) : ks.Nodup ∧ ∀ s, s ∉ ks → t s = 0 := by
  obtain ⟨kvs, p1, p2, p3, p4, p5⟩ := h
  exact ⟨p4, p5⟩
theorem IntD.ne {H : Hp} {p l : Addr} {ks : List Int} {t : Int → Int} {xs : List V} (h : IntD H p ks t) (hl : H l = some (.lst xs)) : p ≠ l := fun e => by
  obtain ⟨kvs, p1, _⟩ := h
  rw [e, hl] at p1
  cases p1
theorem up_at {a : Int} {n i : Nat} {x : V} (h : (upV a n)[i]? = some x) : i < n ∧ x = .int (a + 2 * i) := by
  unfold upV at h
  rw [List.getElem?_map] at h
  by_cases hi : i < n
  · rw [List.getElem?_range hi] at h
    refine ⟨hi, ?_⟩
    have e := (Option.some.inj h).symm
    rw [e]
    show V.int (a + ((i : Nat) : Int) * 2) = V.int (a + 2 * (i : Int))
    rw [Int.mul_comm]
  · rw [List.getElem?_eq_none (by rw [List.length_range]; omega)] at h
    cases h
theorem pair_take {ks : List Int} {t g : Int → Int} {i : Nat} {r : Int} (h : ks[i]? = some r) : pairI (ks.take (i + 1)) t g = pairI (ks.take i) t g + t r * g r := by
  unfold pairI
  rw [List.take_add_one, h, List.map_append, List.sum_append]
  show _ + (t r * g r + 0) = _
  rw [Int.add_zero]
/-- a dict of one entry -/
theorem one_dict {H : Hp} {d : Addr} {n lo hi : Int} (h : H d = some (.dK [((Sum.inl n : Key), V.int 1)])) (h0 : lo ≤ n) (h1 : n ≤ hi) : IntQ H d lo hi fun g => g n := by
  refine ⟨[n], setI (fun _ => 0) n 1, ⟨_, h, rfl, fun r hr => ?_, by simp, fun r hr => ?_⟩, fun g => ?_, fun r hr => ?_⟩
  · rw [List.mem_singleton.mp hr, valV_pos rfl]
    show some (V.int 1) = some (V.int (if n = n then 1 else 0))
    rw [if_pos rfl]
  · unfold setI
    rw [if_neg fun e => hr (by rw [e]; simp)]
  · show (if n = n then 1 else 0) * g n + 0 = g n
    rw [if_pos rfl]
    omega
  · rw [List.mem_singleton.mp hr]
    refine ⟨⟨h0, h1⟩, ?_⟩
    show 0 < (if n = n then (1 : Int) else 0)
    rw [if_pos rfl]
    decide
theorem IntQ.le {H : Hp} {d : Addr} {lo hi lo' hi' : Int} {X : (Int → Int) → Int} (h : IntQ H d lo hi X) (h0 : lo' ≤ lo) (h1 : hi ≤ hi') : IntQ H d lo' hi' X := by
  obtain ⟨ks, t, a, b, c⟩ := h
  exact ⟨ks, t, a, b, fun r hr => ⟨⟨Int.le_trans h0 (c r hr).1.1, Int.le_trans (c r hr).1.2 h1⟩, (c r hr).2⟩⟩
section
variable {P : Program} {w : World} {K : PySem.W.Frag} {mg : Str → Option Value} {base : Heap} {f : Addr} {fd : FuncData}
/-! ### ways_to -/
abbrev back (rs : List Int) : List Int := (rs.drop 1).reverse
def spWays : Sp := fun vs H Q _ => ∃ (a : Addr) (rs : List Int) (n : Int), vs = [.ref a, .int n] ∧ Row H a rs ∧ 0 ≤ n ∧ n ≤ 120 ∧
  ∀ (W : Addr) (ds : List Addr) H', Same H H' → H' W = some (.lst (ds.map V.ref).reverse) → ds.length = rs.length → (∀ (i : Nat) (d : Addr), ds[i]? = some d → IntQ H' d 0 1000 fun g => rowT ((back rs).take i) g n) → Q (.ref W) H'
abbrev nWays : List Str := ["row", "to", "ways", "size", "ahead", "found", "end", "count", "far"]
theorem scWays : FnScope nWays ["row", "to"] (defScope sWays) := ⟨rfl, rfl, rfl, by decide +kernel, rfl, by decide +kernel, by decide +kernel⟩
theorem ok_ways {fE : Addr} {fdE : FuncData} (F : FnP K "ways_to" sWays f fd) (GE : FnOk P w K mg base CX0 1 fE fdE ["one", "other"] spEnds) (bE : L2.Binds K fdE ["one", "other"] []) (kE : PySem.W.keepIn K (.ref fE) = true) (gE : mg "ends_of" = some (.ref fE)) :
    FnOk P w K mg base CX0 2 f fd ["row", "to"] spWays := by
  refine F.ok scWays (fun vs H Q E h => ?_) (fun cdv A outer s H vs Q E hr h => ?_)
  · obtain ⟨_, _, _, rfl, _⟩ := h
    rfl
  · obtain ⟨a, rs, n, rfl, hrow, n0, n1, q⟩ := h
    have hu := hu_of hr
    refine ⟨_, PSs.nox (C8.pss_cut (ps_set (i := 2) scWays.nd rfl (.inl rfl) (pe_lst (pa_cons (pe_disp (pps_cons (pv 1) pe_int pps_nil) (by rfl) (by rfl) (fun z => by cases z) (by decide)) pa_nil)))
      (pss_cons (ps_for PassesOwn.never rfl (pi_list (pe_slice3 (pv 0) po_none (po_some pe_int) (po_some (pe_un un_neg pe_int)))) (pg_name (i := 3) scWays.nd rfl (.inl rfl))
        (pss_cons (ps_set (i := 4) scWays.nd rfl (.inl rfl) (pe_ix ix_list (pv 2) (pe_un un_neg pe_int) (fun _ _ => rfl)))
        (pss_cons (ps_set (i := 5) scWays.nd rfl (.inl rfl) pe_dnewK)
        (C8.pss_cut (ps_lock (ps_for PassesOwn.never rfl (pi_items (pv 4)) (pg_tup rfl (pgs_cons (pg_name (i := 6) scWays.nd rfl (.inl rfl)) (pgs_cons (pg_name (i := 7) scWays.nd rfl (.inl rfl)) pgs_nil)))
          (pss_one (ps_for PassesOwn.never rfl (pi_list (pe_call GE hr (by rfl) gE kE bE .nil pass0 (pa_cons (pv 6) (pa_cons (pv 3) pa_nil)))) (pg_name (i := 8) scWays.nd rfl (.inl rfl))
            (pss_one (ps_dput hu (pv 5) (pv 8) (pe_op op_add (pe_dget2 hu (pv 5) (pv 8) pe_int ⟨rfl, rfl, rfl, rfl⟩) (pv 7)) rfl))))))
        (pss_one (ps_expr (pe_bm PySem.F.plainAttrs_list PySem.F.slot_list_append PySem.F.type_list_append mt_append (pv 2) (pa_cons (pv 5) pa_nil))))))))
      (pss_one (ps_ret (pe_slice3 (pv 2) po_none po_none (po_some (pe_un un_neg pe_int))))))), ?_⟩
    have hlen : (back rs).length + 1 = rs.length := by
      have := hrow.ne
      rw [List.length_reverse, List.length_drop]
      omega
    have hsz : ∀ s ∈ back rs, 0 ≤ s ∧ s ≤ 12 := fun s hs => hrow.sz s (List.mem_of_mem_drop (List.mem_reverse.mp hs))
    -- the first dict
    refine ⟨fun σ H' => ∃ (W d : Addr), σ = [some (.ref a), some (.int n), some (.ref W), none, none, none, none, none, none] ∧ H' W = some (.lst [.ref d]) ∧ Same H H' ∧ H W = none ∧ IntQ H' d 0 120 (fun g => g n), ?_, fun σ H1 hM => ?_⟩
    · intro d hd
      have s1 := same_upd (o := .dK [((Sum.inl n : Key), V.int 1)]) hd
      refine ⟨_, rfl, upd_same, [(Sum.inl n, .int 1)], rfl, by show 1 ≤ 15; decide, ?_⟩
      have e1 : upd (upd H d (.dK [])) d (.dK (mergeK [] [((Sum.inl n : Key), V.int 1)])) = upd H d (.dK [((Sum.inl n : Key), V.int 1)]) := by
        funext b
        by_cases hb : b = d
        · rw [hb, upd_same, upd_same]
          rfl
        · rw [upd_ne hb, upd_ne hb, upd_ne hb]
      rw [e1]
      refine ⟨by show 1 ≤ sizeLine; decide, fun W hW => ?_⟩
      have s2 := same_upd (o := .lst [.ref d]) hW
      exact ⟨W, d, rfl, upd_same, s1.trans s2, s1.free hW, one_dict (s2 _ _ upd_same) n0 n1⟩
    obtain ⟨W, d0, rfl, hW1, s1, hWn, hd0⟩ := hM
    have ha1 := s1 _ _ hrow.at_
    have est : stepV (rs.map V.int) none (some 0) (some (-1)) = (back rs).map V.int := by
      rw [step_tail, ← List.map_drop, ← List.map_reverse]
    refine ⟨_, rfl, 0, rfl, 1, rfl, -1, rfl, a, _, rfl, SqL.of ha1, by decide, ?_, fun sl hsl => ?_⟩
    · rw [est, List.length_map, sizeLine_eq]
      have := hrow.le
      omega
    rw [est]
    have s2 := same_upd (o := .lst ((back rs).map V.int)) hsl
    have hWsl : W ≠ sl := fun e => by
      rw [← e, hW1] at hsl
      cases hsl
    refine ⟨sl, rfl, ⟨_, SqL.of upd_same⟩, for_list (K := K) (a := sl) (xs := (back rs).map V.int) (fun j σ H' => ∃ (v3 v4 v5 v6 v7 v8 : Option V) (ds : List Addr), σ = [some (.ref a), some (.int n), some (.ref W), v3, v4, v5, v6, v7, v8] ∧ H' W = some (.lst (ds.map V.ref)) ∧ ds.length = j + 1 ∧ H' sl = some (.lst ((back rs).map V.int)) ∧ Same H H' ∧ ∀ (i : Nat) (d : Addr), ds[i]? = some d → IntQ H' d 0 (120 + 12 * (i : Int)) fun g => rowT ((back rs).take i) g n)
      ⟨none, none, none, none, none, none, [d0], rfl, s2 _ _ hW1, rfl, upd_same, s1.trans s2, fun i d hi => ?_⟩ (fun j σ H' _ hP => ?_) (fun j x σ H' hx hP => ?_) (fun σ H' hP => ?_)⟩
    · match i, hi with
      | 0, hi =>
        cases hi
        exact IntQ.le (hd0.same s2) (Int.le_refl _) (by omega)
      | i + 1, hi => cases hi
    · obtain ⟨_, _, _, _, _, _, _, _, _, _, z, _⟩ := hP
      exact SqL.of z
    rotate_left
    · -- what is told
      obtain ⟨v3, v4, v5, v6, v7, v8, ds, rfl, hW, hds, hsl', sm, hI⟩ := hP
      refine ⟨_, rfl, 1, rfl, -1, rfl, W, _, rfl, SqL.of hW, by decide, ?_, fun R hR => ?_⟩
      · rw [step_rev, List.length_reverse, List.length_map, hds, List.length_map, sizeLine_eq]
        have := hrow.le
        omega
      rw [step_rev]
      have s3 := same_upd (o := .lst (ds.map V.ref).reverse) hR
      refine q R ds _ (sm.trans s3) upd_same (by rw [hds, List.length_map, hlen]) fun i d hi => IntQ.le ((hI i d hi).same s3) (Int.le_refl _) ?_
      have := (List.getElem?_eq_some_iff.mp hi).1
      have := hrow.le
      rw [hds, List.length_map] at *
      omega
    -- a size more
    obtain ⟨v3, v4, v5, v6, v7, v8, ds, rfl, hW, hds, hsl', sm, hI⟩ := hP
    obtain ⟨sz, hj, rfl⟩ : ∃ sz : Int, (back rs)[j]? = some sz ∧ x = .int sz := by
      rw [List.getElem?_map] at hx
      cases e : (back rs)[j]? with
      | none =>
        rw [e] at hx
        cases hx
      | some z =>
        rw [e] at hx
        exact ⟨z, rfl, (Option.some.inj hx).symm⟩
    obtain ⟨z0, z1⟩ := hsz sz (List.mem_of_getElem? hj)
    have hjl : j < (back rs).length := (List.getElem?_eq_some_iff.mp hj).1
    have j9 : j ≤ 9 := by
      have := hrow.le
      omega
    obtain ⟨d, hd⟩ : ∃ d, ds[j]? = some d := ⟨_, List.getElem?_eq_getElem (by omega)⟩
    refine ⟨_, rfl, 1, rfl, W, _, -1, .ref d, rfl, rfl, SqL.of hW, ?_, ?_⟩
    · have e0 : ds = ds.take j ++ [d] := by
        have z := List.take_add_one (l := ds) (i := j)
        rw [← hds, List.take_length, hd] at z
        exact z
      rw [e0, List.map_append]
      exact atI_last _ _
    intro p hp
    have sp := same_upd (o := .dK []) hp
    obtain ⟨ks, t, hID, hpair, hks⟩ := hI j d hd
    obtain ⟨kv, a1, a2, a3, a4, a5⟩ := id hID
    have lk := len_keys a2
    have npd : p ≠ d := (ne_of_none a1 hp).symm
    have npW : p ≠ W := (ne_of_none hW hp).symm
    refine ⟨fun σ G => ∃ (v6 v7 v8 : Option V), σ = [some (.ref a), some (.int n), some (.ref W), some (.int sz), some (.ref d), some (.ref p), v6, v7, v8] ∧ (∀ b o, H' b = some o → G b = some o) ∧ IntQ G p 0 (120 + 12 * ((j + 1 : Nat) : Int)) (fun g => rowT ((back rs).take (j + 1)) g n), ?_, fun σ G hM => ?_⟩
    · refine ⟨d, .dK kv, sp _ _ a1, trivial, fun o1 => ?_⟩
      refine ⟨_, rfl, d, o1, kv, rfl, upd_same, ?_⟩
      refine for_it (walk_items (d := d) (o := o1) (kvs := kv)) (fun i σ G => ∃ (v6 v7 v8 : Option V) (ks' : List Int) (t' : Int → Int), σ = [some (.ref a), some (.int n), some (.ref W), some (.int sz), some (.ref d), some (.ref p), v6, v7, v8] ∧ G d = some (.frz o1 (.dK kv)) ∧ (∀ b o, H' b = some o → b ≠ d → G b = some o) ∧
          IntD G p ks' t' ∧ (∀ g, pairI ks' t' g = pairI (ks.take i) t (opT sz g)) ∧ ∀ r ∈ ks', (0 ≤ r ∧ r ≤ 120 + 12 * ((j + 1 : Nat) : Int)) ∧ 0 < t' r)
        ⟨_, _, _, [], fun _ => 0, rfl, upd_same, fun b o e hb => by rw [upd_ne hb]; exact sp _ _ e, ⟨[], by rw [upd_ne npd, upd_same], rfl, (fun r hr => by cases hr), List.nodup_nil, fun r _ => rfl⟩, fun g => rfl, (fun r hr => by cases hr)⟩ (fun i σ G _ hP => ?_) (fun i x σ G G2 hi hP hy => ?_) (fun σ G hP => ?_)
      · obtain ⟨_, _, _, _, _, _, z, _⟩ := hP
        exact z
      · obtain ⟨T, x, y, rfl, hT, rfl, hx', hy'⟩ := hy
        obtain ⟨w6, w7, w8, ks', t', rfl, hf, keep, hI', hpr, hks'⟩ := hP
        obtain ⟨r, hr', rfl, rfl⟩ := int_at a2 a3 a4 hx' hy'
        have rk : r ∈ ks := List.mem_of_getElem? hr'
        obtain ⟨⟨r0, r1⟩, r2⟩ := hks r rk
        have sT := same_upd (o := .tup [.int r, .int (t r)]) hT
        refine ⟨T, _, rfl, SqT.of upd_same, rfl, _, _, rfl, _, _, rfl, rfl, ?_⟩
        refine ⟨_, rfl, _, rfl, r, sz, rfl, r0, by omega, z0, by omega, fun l hl => ?_⟩
        have sl' := same_upd (o := .lst (upV (loJ r sz) (manyE r sz))) hl
        have npl : p ≠ l := fun e => by
          obtain ⟨_, z, _⟩ := hI'.same sT
          rw [e, hl] at z
          cases z
        have ndl : d ≠ l := fun e => by
          have z := sT _ _ hf
          rw [e, hl] at z
          cases z
        have bnd : loJ r sz + 2 * ((manyE r sz : Nat) : Int) ≤ r + sz + 2 := by
          unfold loJ manyE
          split <;> split <;> omega
        have l0 := loJ_nn r sz
        refine ⟨l, rfl, ⟨_, SqL.of upd_same⟩, for_list (K := K) (a := l) (xs := upV (loJ r sz) (manyE r sz)) (fun m σ G3 => ∃ (v8 : Option V) (ks' : List Int) (t' : Int → Int), σ = [some (.ref a), some (.int n), some (.ref W), some (.int sz), some (.ref d), some (.ref p), some (.int r), some (.int (t r)), v8] ∧ G3 d = some (.frz o1 (.dK kv)) ∧ G3 l = some (.lst (upV (loJ r sz) (manyE r sz))) ∧ (∀ b o, H' b = some o → b ≠ d → G3 b = some o) ∧
            IntD G3 p ks' t' ∧ (∀ g, pairI ks' t' g = pairI (ks.take i) t (opT sz g) + t r * runS g (loJ r sz) m) ∧ ∀ r ∈ ks', (0 ≤ r ∧ r ≤ 120 + 12 * ((j + 1 : Nat) : Int)) ∧ 0 < t' r)
          ⟨_, ks', t', rfl, (sT.trans sl') _ _ hf, upd_same, fun b o e hb => (sT.trans sl') _ _ (keep b o e hb), hI'.same (sT.trans sl'), fun g => ?_, hks'⟩ (fun m σ G3 _ hP => ?_) (fun m x σ G3 hx hP => ?_) (fun σ G3 hP => ?_)⟩
        · rw [hpr g]
          show _ = _ + t r * 0
          rw [Int.mul_zero, Int.add_zero]
        · obtain ⟨_, _, _, _, _, z, _⟩ := hP
          exact SqL.of z
        · obtain ⟨w8, ks', t', rfl, hf, hl3, keep, hI', hpr, hks'⟩ := hP
          obtain ⟨hm, rfl⟩ := up_at hx
          obtain ⟨o, dg, eo⟩ := got (r := loJ r sz + 2 * (m : Int)) hI'
          obtain ⟨kvp, p1, p2, p3, p4, p5⟩ := id hI'
          refine ⟨_, rfl, p, rfl, .inl ⟨_, .inl p1⟩, _, rfl, o, dg, ?_⟩
          rw [eo]
          have few : kvp.length < sizeLine := by
            have : ks'.length ≤ 1000 := nodup_len (lo := 0) 1000 p4 fun s hs => by
              have := hks' s hs
              omega
            rw [len_keys p2, sizeLine_eq]
            omega
          refine ⟨_, rfl, t' (loJ r sz + 2 * (m : Int)), t r, rfl, rfl, _, rfl, _, rfl, p, _, rfl, DPut.k (k := Sum.inl (loJ r sz + 2 * (m : Int))) p1 few, ?_⟩
          refine ⟨_, addKey ks' (loJ r sz + 2 * (m : Int)), setI t' (loJ r sz + 2 * (m : Int)) (t' (loJ r sz + 2 * (m : Int)) + t r), rfl, by rw [upd_ne npd.symm]; exact hf, by rw [upd_ne npl.symm]; exact hl3, fun b o e hb => ?_, putI_ok (H := G3) (d := p) (r := loJ r sz + 2 * (m : Int)) p2 p3 p4 p5, fun g => ?_, fun s hs => ?_⟩
          · rw [upd_ne (ne_of_none e hp)]
            exact keep b o e hb
          · rw [pair_put p4 p5, hpr g, runS_succ, Int.mul_add, Int.add_assoc]
          · refine ⟨?_, pos_put (fun r hr => (hks' r hr).2) p5 r2 s hs⟩
            rcases mem_addKey.mp hs with h | h
            · exact (hks' s h).1
            · rw [h]
              omega
        · obtain ⟨w8, ks', t', rfl, hf, hl3, keep, hI', hpr, hks'⟩ := hP
          refine ⟨_, _, _, ks', t', rfl, hf, keep, hI', fun g => ?_, hks'⟩
          rw [hpr g, upV_length, pair_take hr']
          rfl
      · obtain ⟨w6, w7, w8, ks', t', rfl, hf, keep, hI', hpr, hks'⟩ := hP
        refine ⟨hf, _, _, _, rfl, fun b o e => ?_, ks', t', hI'.upd npd, fun g => ?_, hks'⟩
        · by_cases hb : b = d
          · rw [hb, upd_same]
            rw [hb, a1] at e
            exact e
          · rw [upd_ne hb]
            exact keep b o e hb
        · rw [hpr g, lk, List.take_length, hpair, List.take_add_one, hj]
          show _ = rowT ((back rs).take j ++ [sz]) g n
          rw [rowT_snoc]
    obtain ⟨w6, w7, w8, rfl, keep, hIP⟩ := hM
    have hWG := keep _ _ hW
    refine ⟨_, rfl, .inl ⟨rfl, _, SqL.of hWG⟩, _, rfl, W, _, _, rfl, rfl, hWG, ?_, _, _, _, _, _, _, ds ++ [p], rfl, ?_, ?_, ?_, ?_, fun i d' hi => ?_⟩
    · rw [List.length_map, hds, sizeLine_eq]
      omega
    · rw [upd_same, List.map_append]
      rfl
    · rw [List.length_append, hds]
      rfl
    · rw [upd_ne hWsl.symm]
      exact keep _ _ hsl'
    · intro b o e
      have hb : b ≠ W := fun z => by
        rw [z, hWn] at e
        cases e
      rw [upd_ne hb]
      exact keep _ _ (sm _ _ e)
    · have stay : ∀ {d' : Addr} {hi : Int} {X : (Int → Int) → Int}, IntQ G d' 0 hi X → IntQ (upd G W (.lst (ds.map V.ref ++ [.ref p]))) d' 0 hi X := fun {d' hi X} h => by
        obtain ⟨ks, t, b1, b2⟩ := h
        exact ⟨ks, t, b1.upd (IntD.ne b1 hWG), b2⟩
      by_cases hi2 : i < ds.length
      · rw [List.getElem?_append_left hi2] at hi
        exact stay ((hI i d' hi).same keep)
      · have ei : i = ds.length := by
          have := (List.getElem?_eq_some_iff.mp hi).1
          rw [List.length_append] at this
          have : i < ds.length + 1 := this
          omega
        rw [ei, List.getElem?_append_right (Nat.le_refl _), Nat.sub_self] at hi
        cases hi
        rw [ei, hds]
        exact stay hIP
end
end TC
namespace TC
open PySem PySem.Spec PyProof.Rows L2 TCA TCX
theorem SameBut.free {p c q : Addr} {H H' : Hp} {ms : List Int} {n : Int} (s : SameBut p H H') (pen : PenAt H' p c ms n) (h : H' q = none) : H q = none := by
  cases e : H q with
  | none => rfl
  | some o =>
    have z := s q o (PenAt.ne pen h) e
    rw [h] at z
    cases z
theorem pickI (vs : List Int) {d : Int} (h0 : 0 ≤ d) (h1 : d < vs.length) : ∃ v, v ∈ vs ∧ atI (vs.map V.int) d = some (.int v) := by
  have hk : d.toNat < vs.length := by omega
  refine ⟨vs[d.toNat], List.getElem_mem hk, ?_⟩
  have z := atI_nat (xs := vs.map V.int) (j := d.toNat) (v := .int vs[d.toNat]) (by rw [List.getElem?_map]; simp [hk])
  have e : ((d.toNat : Nat) : Int) = d := by omega
  rw [e] at z
  exact z
section
variable {P : Program} {w : World} {K : PySem.W.Frag} {mg : Str → Option Value} {base : Heap} {f : Addr} {fd : FuncData}
/-! ### _law_row -/
def spRow : Sp := fun vs H Q _ => ∃ (p c : Addr) (ms : List Int) (n m g : Int), vs = [.ref p, .int m, .int g] ∧ PenAt H p c ms n ∧ 0 ≤ n ∧ n ≤ 500000 ∧ 1 ≤ m ∧ m ≤ 10 ∧ 0 ≤ g ∧ g ≤ 12 ∧
  ∀ (l : Addr) (rs : List Int) (n' : Int) H', H l = none → rs.length = m.toNat → (∀ s ∈ rs, 0 ≤ s ∧ s ≤ 12) → n ≤ n' → n' ≤ n + 30 → PenAt H' p c ms n' → SameBut p H H' → H' l = some (.lst (rs.map V.int)) → Q (.ref l) H'
abbrev nRow : List Str := ["_law_pen_here", "_law_many", "_law_great", "_law_k"]
theorem scRow : FnScope nRow ["_law_pen_here", "_law_many", "_law_great"] (defScope sRow) := ⟨rfl, rfl, rfl, by decide +kernel, rfl, by decide +kernel, by decide +kernel⟩
theorem ok_row {fD : Addr} {fdD : FuncData} (F : FnP K "_law_row" sRow f fd) (GD : FnOk P w K mg base CX0 1 fD fdD ["_law_pen_here", "_law_many"] spDraw) (bD : L2.Binds K fdD ["_law_pen_here", "_law_many"] []) (kD : PySem.W.keepIn K (.ref fD) = true) (gD : mg "_law_draw" = some (.ref fD)) (gr : mg "range" = none) :
    FnOk P w K mg base CX0 2 f fd ["_law_pen_here", "_law_many", "_law_great"] spRow := by
  refine F.ok scRow (fun vs H Q E h => ?_) (fun cdv A outer s H vs Q E hr h => ?_)
  · obtain ⟨_, _, _, _, _, _, rfl, _⟩ := h
    rfl
  · obtain ⟨p, c, ms, n, m, g, rfl, pen, n0, n1, m0, m1, g0, g1, q⟩ := h
    refine ⟨_, PSs.nox (pss_one (ps_ret (pe_lc (own := [("_law_k", 3)]) (g := gName 3) (tt := tYes) (te := tOp (rIxL K) (tLst (tCons (tCall spDraw [] E0 (tCons (tVar 0) (tCons (tOp (rI0 fun i j => .int (i + j)) (tVar 2) (tC (.int 1))) tNil))) (tCons (tCall spDraw [] E0 (tCons (tVar 0) (tCons (tC (.int 3)) tNil))) (tCons (tVar 2) tNil)))) (tOp (rI CDiv fun i j => .int (i / j)) (tCall spDraw [] E0 (tCons (tVar 0) (tCons (tC (.int 9)) tNil))) (tC (.int 4)))) (by rfl) scRow.nd (pi_range1 (by rfl) gr (pa_cons (pv 1) pa_nil))
          (blkOk_by (N := nRow) (sc := defScope sRow) (by decide +kernel)) (fun _ _ _ _ _ => pg_name (i := 3) scRow.nd rfl (.inl rfl)) (fun _ _ _ _ _ => pts_nil) (fun _ _ _ _ _ => (pe_ix ix_list (pe_lst (pa_cons (pe_call GD hr (by rfl) gD kD bD .nil pass0 (pa_cons (pv 0) (pa_cons (pe_op op_add (pv 2) pe_int) pa_nil))) (pa_cons (pe_call GD hr (by rfl) gD kD bD .nil pass0 (pa_cons (pv 0) (pa_cons pe_int pa_nil))) (pa_cons (pv 2) pa_nil)))) (pe_op op_fdiv (pe_call GD hr (by rfl) gD kD bD .nil pass0 (pa_cons (pv 0) (pa_cons pe_int pa_nil))) pe_int) (fun _ _ => rfl)))))), ?_⟩
    refine ⟨_, rfl, m, rfl, by omega, by omega, fun D hD => lc_range (lo := 0) (n := m.toNat) (fun i H' => ∃ (rs : List Int) (n' : Int), H' D = some (.lst (rs.map V.int)) ∧ rs.length = i ∧ (∀ s ∈ rs, 0 ≤ s ∧ s ≤ 12) ∧ n ≤ n' ∧ n' ≤ n + 3 * (i : Int) ∧ PenAt H' p c ms n' ∧ SameBut p H H')
      ⟨[], n, upd_same, rfl, (fun s hs => by cases hs), Int.le_refl _, by omega, pen.new hD, Same.but (same_upd hD)⟩ (fun i H' hi hP => ?_) (fun H' hP => ?_)⟩
    · obtain ⟨rs, n', hDl, lr, hs, e0, e1, pen', sb⟩ := hP
      have Dp : D ≠ p := PenAt.ne pen hD
      have i10 : i < 10 := by omega
      refine ⟨rfl, ?_⟩
      have big : g + 1 < 2 ^ 1000 := Int.lt_of_lt_of_le (show g + 1 < 1000 by omega) (by decide +kernel)
      refine ⟨_, rfl, _, rfl, g, 1, rfl, rfl, p, c, ms, n', g + 1, rfl, pen', by omega, by omega, by omega, big, fun d1 n2 H2 a0 a1 a2 a3 p2 s2 => ?_⟩
      refine ⟨_, rfl, p, c, ms, n2, 3, rfl, p2, by omega, by omega, by decide, by decide, fun d2 n3 H3 b0 b1 b2 b3 p3 s3 => ?_⟩
      refine ⟨_, rfl, by show 3 ≤ sizeLine; decide, fun l hl => ?_⟩
      have s4 := same_upd (o := .lst (([d1, d2, g] : List Int).map V.int)) hl
      refine ⟨_, rfl, p, c, ms, n3, 9, rfl, p3.same s4, by omega, by omega, by decide, by decide, fun d3 n4 H4 c0 c1 c2 c3 p4 s5 => ?_⟩
      obtain ⟨v, hv, ev⟩ := pickI [d1, d2, g] (d := d3 / 4) (by omega) (show d3 / 4 < (3 : Int) by omega)
      have v01 : 0 ≤ v ∧ v ≤ 12 := by
        simp only [List.mem_cons, List.not_mem_nil, or_false] at hv
        rcases hv with rfl | rfl | rfl <;> omega
      have s25 : SameBut p H' H4 := SameBut.trans (SameBut.trans s2 s3) (SameBut.trans (Same.but s4) s5)
      refine ⟨d3, 4, rfl, rfl, ⟨by decide, by decide⟩, l, _, _, _, rfl, rfl, SqL.of (s5 _ _ (PenAt.ne p3 hl) upd_same), ev, _, s25 _ _ Dp hDl, ?_, rs ++ [v], n4, ?_, ?_, fun s hs' => ?_, by omega, ?_, ?_, ?_⟩
      · rw [List.length_map, lr, sizeLine_eq]
        omega
      · rw [upd_same, List.map_append]
        rfl
      · rw [List.length_append, lr]
        rfl
      · rcases List.mem_append.mp hs' with h | h
        · exact hs s h
        · rw [List.mem_singleton.mp h]
          exact v01
      · have : (((i + 1 : Nat)) : Int) = (i : Int) + 1 := by omega
        omega
      · obtain ⟨lf, y1, y2, y3⟩ := p4
        have Dc : D ≠ c := fun e => by
          obtain ⟨_, _, z, _⟩ := pen
          rw [← e, hD] at z
          cases z
        exact ⟨lf, by rw [upd_ne Dp.symm]; exact y1, by rw [upd_ne Dc.symm]; exact y2, y3⟩
      · intro b o hb e
        rw [upd_ne (ne_of_none e hD)]
        exact s25 _ _ hb (sb _ _ hb e)
    · obtain ⟨rs, n', hDl, lr, hs, e0, e1, pen', sb⟩ := hP
      exact q D rs n' H' hD lr hs e0 (by omega) pen' sb hDl
/-! ### _law_counts -/
def spCountsL : Sp := fun vs H Q _ => ∃ (a : Addr) (r0 : Int) (rest : List Int), vs = [.ref a] ∧ Row H a (r0 :: rest) ∧
  ∀ (d : Addr) (ks : List Int) (t : Int → Int) H', Same H H' → IntD H' d ks t → (∀ g, pairI ks t g = rowT rest g r0) → (∀ r ∈ ks, (0 ≤ r ∧ r ≤ 120) ∧ 0 < t r) → ks ≠ [] → Q (.ref d) H'
abbrev nCounts : List Str := ["_law_row_here", "_law_found", "_law_size", "_law_fresh", "_law_one", "_law_other"]
theorem scCounts : FnScope nCounts ["_law_row_here"] (defScope sCounts) := ⟨rfl, rfl, rfl, by decide +kernel, rfl, by decide +kernel, by decide +kernel⟩
theorem add_ne {ks : List Int} {r : Int} : addKey ks r ≠ [] := by
  unfold addKey
  split
  · rename_i h
    exact fun e => by rw [e] at h; cases h
  · exact fun e => by simp at e
theorem ok_countsL {fJ : Addr} {fdJ : FuncData} (F : FnP K "_law_counts" sCounts f fd) (GJ : FnOk P w K mg base CX0 1 fJ fdJ ["_law_one", "_law_other"] spEnds) (bJ : L2.Binds K fdJ ["_law_one", "_law_other"] []) (kJ : PySem.W.keepIn K (.ref fJ) = true) (gJ : mg "_law_joints" = some (.ref fJ)) :
    FnOk P w K mg base CX0 2 f fd ["_law_row_here"] spCountsL := by
  refine F.ok scCounts (fun vs H Q E h => ?_) (fun cdv A outer s H vs Q E hr h => ?_)
  · obtain ⟨_, _, _, rfl, _⟩ := h
    rfl
  · obtain ⟨a, r0, rest, rfl, hR, q⟩ := h
    have hu := hu_of hr
    refine ⟨_, PSs.nox (C8.pss_cut (ps_set (i := 1) scCounts.nd rfl (.inl rfl) (pe_disp (pps_cons (pe_ix ix_list (pv 0) pe_int (fun _ _ => rfl)) pe_int pps_nil) (by rfl) (by rfl) (fun z => by cases z) (by decide)))
      (pss_cons (ps_for PassesOwn.never rfl (pi_list (pe_slice sl_list (pv 0) (po_some pe_int) po_none)) (pg_name (i := 2) scCounts.nd rfl (.inl rfl))
        (pss_cons (ps_set (i := 3) scCounts.nd rfl (.inl rfl) pe_dnewK)
        (C8.pss_cut (ps_lock (ps_for PassesOwn.never rfl (pi_keys (pv 1)) (pg_name (i := 4) scCounts.nd rfl (.inl rfl))
          (pss_one (ps_for PassesOwn.never rfl (pi_list (pe_call GJ hr (by rfl) gJ kJ bJ .nil pass0 (pa_cons (pv 4) (pa_cons (pv 2) pa_nil)))) (pg_name (i := 5) scCounts.nd rfl (.inl rfl))
            (pss_one (ps_dput hu (pv 3) (pv 5) (pe_op op_add (pe_dget2 hu (pv 3) (pv 5) pe_int ⟨rfl, rfl, rfl, rfl⟩) (pe_dget hu (pv 1) (pv 4) (fun _ _ => rfl))) rfl))))))
        (pss_one (ps_set (i := 1) scCounts.nd rfl (.inl rfl) (pv 3))))))
      (pss_one (ps_ret (pv 1))))), ?_⟩
    have r01 := hR.sz r0 (by simp)
    refine ⟨fun σ H' => ∃ d : Addr, σ = [some (.ref a), some (.ref d), none, none, none, none] ∧ Same H H' ∧ ∃ ks t, IntD H' d ks t ∧ (∀ g, pairI ks t g = g r0) ∧ (∀ r ∈ ks, (0 ≤ r ∧ r ≤ 12) ∧ 0 < t r) ∧ ks ≠ [], ?_, fun σ H1 hM => ?_⟩
    · intro d hd
      have s0 := same_upd (o := .dK []) hd
      refine ⟨_, rfl, a, _, 0, .int r0, rfl, rfl, SqL.of (s0 _ _ hR.at_), atI_nat (j := 0) rfl, upd_same, [(Sum.inl r0, .int 1)], rfl, by show 1 ≤ 15; decide, ?_⟩
      have e1 : upd (upd H d (.dK [])) d (.dK (mergeK [] [((Sum.inl r0 : Key), V.int 1)])) = upd H d (.dK [((Sum.inl r0 : Key), V.int 1)]) := by
        funext b
        by_cases hb : b = d
        · rw [hb, upd_same, upd_same]
          rfl
        · rw [upd_ne hb, upd_ne hb, upd_ne hb]
      rw [e1]
      obtain ⟨ks, t, b1, b2, b3⟩ := one_dict (H := upd H d (.dK [((Sum.inl r0 : Key), V.int 1)])) (d := d) (n := r0) upd_same r01.1 r01.2
      refine ⟨d, rfl, same_upd hd, ks, t, b1, b2, b3, fun e => ?_⟩
      have z := b2 fun _ => 1
      rw [e] at z
      cases z
    obtain ⟨d0, rfl, s1, ks0, t0, hd0, hp0, hk0, hne0⟩ := hM
    refine ⟨_, rfl, 1, rfl, a, _, rfl, SqL.of (s1 _ _ hR.at_), fun sl hsl => ?_⟩
    have ecut : cutV ((r0 :: rest).map V.int) (some 1) none = rest.map V.int := by
      have z := cut_drop (xs := (r0 :: rest).map V.int) (k := 1)
      exact z
    rw [ecut]
    have s2 := same_upd (o := .lst (rest.map V.int)) hsl
    refine ⟨sl, rfl, ⟨_, SqL.of upd_same⟩, for_list (K := K) (a := sl) (xs := rest.map V.int) (fun j σ H' => ∃ (d : Addr) (v2 v3 v4 v5 : Option V), σ = [some (.ref a), some (.ref d), v2, v3, v4, v5] ∧ Same H H' ∧ H' sl = some (.lst (rest.map V.int)) ∧ ∃ ks t, IntD H' d ks t ∧ (∀ g, pairI ks t g = rowT (rest.take j) g r0) ∧ (∀ r ∈ ks, (0 ≤ r ∧ r ≤ 12 + 12 * (j : Int)) ∧ 0 < t r) ∧ ks ≠ [])
      ⟨d0, none, none, none, none, rfl, s1.trans s2, upd_same, ks0, t0, hd0.same s2, hp0, fun r hr => ⟨⟨(hk0 r hr).1.1, by have := (hk0 r hr).1.2; omega⟩, (hk0 r hr).2⟩, hne0⟩ (fun j σ H' _ hP => ?_) (fun j x σ H' hx hP => ?_) (fun σ H' hP => ?_)⟩
    · obtain ⟨_, _, _, _, _, _, _, z, _⟩ := hP
      exact SqL.of z
    rotate_left
    · obtain ⟨d, v2, v3, v4, v5, rfl, sm, _, ks, t, hID, hpair, hks, hne⟩ := hP
      rw [List.length_map, List.take_length] at hpair
      refine ⟨_, rfl, q d ks t H' sm hID hpair (fun r hr => ⟨⟨(hks r hr).1.1, ?_⟩, (hks r hr).2⟩) hne⟩
      have := (hks r hr).1.2
      have l10 : rest.length + 1 ≤ 10 := hR.le
      rw [List.length_map] at this
      omega
    obtain ⟨d, v2, v3, v4, v5, rfl, sm, hsl', ks, t, hID, hpair, hks, hne⟩ := hP
    obtain ⟨sz, hj, rfl⟩ : ∃ sz : Int, rest[j]? = some sz ∧ x = .int sz := by
      rw [List.getElem?_map] at hx
      cases e : rest[j]? with
      | none =>
        rw [e] at hx
        cases hx
      | some z =>
        rw [e] at hx
        exact ⟨z, rfl, (Option.some.inj hx).symm⟩
    obtain ⟨z0, z1⟩ := hR.sz sz (List.mem_cons_of_mem _ (List.mem_of_getElem? hj))
    have j9 : j ≤ 9 := by
      have := (List.getElem?_eq_some_iff.mp hj).1
      have l10 : rest.length + 1 ≤ 10 := hR.le
      omega
    intro p hp
    have sp := same_upd (o := .dK []) hp
    obtain ⟨kv, a1, a2, a3, a4, a5⟩ := id hID
    have lk := len_keys a2
    have npd : p ≠ d := (ne_of_none a1 hp).symm
    refine ⟨fun σ G => ∃ (v4 v5 : Option V), σ = [some (.ref a), some (.ref d), some (.int sz), some (.ref p), v4, v5] ∧ (∀ b o, H' b = some o → G b = some o) ∧ ∃ ks t, IntD G p ks t ∧ (∀ g, pairI ks t g = rowT (rest.take (j + 1)) g r0) ∧ (∀ r ∈ ks, (0 ≤ r ∧ r ≤ 12 + 12 * ((j + 1 : Nat) : Int)) ∧ 0 < t r) ∧ ks ≠ [], ?_, fun σ G hM => ?_⟩
    · refine ⟨d, .dK kv, sp _ _ a1, trivial, fun o1 => ?_⟩
      refine ⟨_, rfl, d, o1, rfl, .inl ⟨kv, upd_same, ?_⟩⟩
      refine for_it (walk_keys (d := d) (o := o1) (kvs := kv)) (fun i σ G => ∃ (v4 v5 : Option V) (ks' : List Int) (t' : Int → Int), σ = [some (.ref a), some (.ref d), some (.int sz), some (.ref p), v4, v5] ∧ G d = some (.frz o1 (.dK kv)) ∧ (∀ b o, H' b = some o → b ≠ d → G b = some o) ∧
          IntD G p ks' t' ∧ (∀ g, pairI ks' t' g = pairI (ks.take i) t (opT sz g)) ∧ (∀ r ∈ ks', (0 ≤ r ∧ r ≤ 12 + 12 * ((j + 1 : Nat) : Int)) ∧ 0 < t' r) ∧ (0 < i → ks' ≠ []))
        ⟨_, _, [], fun _ => 0, rfl, upd_same, fun b o e hb => by rw [upd_ne hb]; exact sp _ _ e, ⟨[], by rw [upd_ne npd, upd_same], rfl, (fun r hr => by cases hr), List.nodup_nil, fun r _ => rfl⟩, fun g => rfl, (fun r hr => by cases hr), fun z => absurd z (by decide)⟩ (fun i σ G _ hP => ?_) (fun i x σ G G2 hi hP hy => ?_) (fun σ G hP => ?_)
      · obtain ⟨_, _, _, _, _, z, _⟩ := hP
        exact z
      · obtain ⟨rfl, k, v, hkv, rfl⟩ := hy
        obtain ⟨w4, w5, ks', t', rfl, hf, keep, hI', hpr, hks', _⟩ := hP
        obtain ⟨r, hr', rfl⟩ := key_at a2 hkv
        have rk : r ∈ ks := List.mem_of_getElem? hr'
        obtain ⟨⟨r0', r1'⟩, r2'⟩ := hks r rk
        refine ⟨_, rfl, _, rfl, r, sz, rfl, r0', by omega, z0, by omega, fun l hl => ?_⟩
        have sl' := same_upd (o := .lst (upV (loJ r sz) (manyE r sz))) hl
        have npl : p ≠ l := fun e => by
          obtain ⟨_, z, _⟩ := hI'
          rw [e, hl] at z
          cases z
        have bnd : loJ r sz + 2 * ((manyE r sz : Nat) : Int) ≤ r + sz + 2 := by
          unfold loJ manyE
          split <;> split <;> omega
        have l0 := loJ_nn r sz
        have many : 0 < manyE r sz := by
          unfold manyE
          omega
        refine ⟨l, rfl, ⟨_, SqL.of upd_same⟩, for_list (K := K) (a := l) (xs := upV (loJ r sz) (manyE r sz)) (fun m σ G3 => ∃ (v5 : Option V) (ks' : List Int) (t' : Int → Int), σ = [some (.ref a), some (.ref d), some (.int sz), some (.ref p), some (.int r), v5] ∧ G3 d = some (.frz o1 (.dK kv)) ∧ G3 l = some (.lst (upV (loJ r sz) (manyE r sz))) ∧ (∀ b o, H' b = some o → b ≠ d → G3 b = some o) ∧
            IntD G3 p ks' t' ∧ (∀ g, pairI ks' t' g = pairI (ks.take i) t (opT sz g) + t r * runS g (loJ r sz) m) ∧ (∀ r ∈ ks', (0 ≤ r ∧ r ≤ 12 + 12 * ((j + 1 : Nat) : Int)) ∧ 0 < t' r) ∧ (0 < m → ks' ≠ []))
          ⟨_, ks', t', rfl, sl' _ _ hf, upd_same, fun b o e hb => sl' _ _ (keep b o e hb), hI'.same sl', fun g => ?_, hks', fun z => absurd z (by decide)⟩ (fun m σ G3 _ hP => ?_) (fun m x σ G3 hx hP => ?_) (fun σ G3 hP => ?_)⟩
        · rw [hpr g]
          show _ = _ + t r * 0
          rw [Int.mul_zero, Int.add_zero]
        · obtain ⟨_, _, _, _, _, z, _⟩ := hP
          exact SqL.of z
        · obtain ⟨w5, ks', t', rfl, hf, hl3, keep, hI', hpr, hks', _⟩ := hP
          obtain ⟨hm, rfl⟩ := up_at hx
          obtain ⟨o, dg, eo⟩ := got (r := loJ r sz + 2 * (m : Int)) hI'
          obtain ⟨kvp, p1, p2, p3, p4, p5⟩ := id hI'
          refine ⟨_, rfl, p, rfl, .inl ⟨_, .inl p1⟩, _, rfl, o, dg, ?_⟩
          rw [eo]
          have few : kvp.length < sizeLine := by
            have : ks'.length ≤ 1000 := nodup_len (lo := 0) 1000 p4 fun s hs => by
              have := hks' s hs
              omega
            rw [len_keys p2, sizeLine_eq]
            omega
          refine ⟨_, rfl, _, rfl, d, .int (t r), rfl, .inl ⟨kv, Sum.inl r, .inr ⟨o1, hf⟩, rfl, (a3 r rk).symm⟩, t' (loJ r sz + 2 * (m : Int)), t r, rfl, rfl, _, rfl, _, rfl, p, _, rfl, DPut.k (k := Sum.inl (loJ r sz + 2 * (m : Int))) p1 few, ?_⟩
          refine ⟨_, addKey ks' (loJ r sz + 2 * (m : Int)), setI t' (loJ r sz + 2 * (m : Int)) (t' (loJ r sz + 2 * (m : Int)) + t r), rfl, by rw [upd_ne npd.symm]; exact hf, by rw [upd_ne npl.symm]; exact hl3, fun b o e hb => ?_, putI_ok (H := G3) (d := p) (r := loJ r sz + 2 * (m : Int)) p2 p3 p4 p5, fun g => ?_, fun s hs => ?_, fun _ => add_ne⟩
          · rw [upd_ne (ne_of_none e hp)]
            exact keep b o e hb
          · rw [pair_put p4 p5, hpr g, runS_succ, Int.mul_add, Int.add_assoc]
          · refine ⟨?_, pos_put (fun r hr => (hks' r hr).2) p5 r2' s hs⟩
            rcases mem_addKey.mp hs with h | h
            · exact (hks' s h).1
            · rw [h]
              omega
        · obtain ⟨w5, ks', t', rfl, hf, hl3, keep, hI', hpr, hks', hne'⟩ := hP
          rw [upV_length] at hpr hne'
          refine ⟨_, _, ks', t', rfl, hf, keep, hI', fun g => ?_, hks', fun _ => hne' many⟩
          rw [hpr g, pair_take hr']
          rfl
      · obtain ⟨w4, w5, ks', t', rfl, hf, keep, hI', hpr, hks', hne'⟩ := hP
        refine ⟨hf, _, _, rfl, fun b o e => ?_, ks', t', hI'.upd npd, fun g => ?_, hks', hne' ?_⟩
        · by_cases hb : b = d
          · rw [hb, upd_same]
            rw [hb, a1] at e
            exact e
          · rw [upd_ne hb]
            exact keep b o e hb
        · rw [hpr g, lk, List.take_length, hpair, List.take_add_one, hj]
          show _ = rowT (rest.take j ++ [sz]) g r0
          rw [rowT_snoc]
        · rw [lk]
          exact List.length_pos_iff.mpr hne
    obtain ⟨w4, w5, rfl, keep, hIP⟩ := hM
    exact ⟨_, rfl, p, _, _, _, _, rfl, fun b o e => keep _ _ (sm _ _ e), keep _ _ hsl', hIP⟩
end
end TC
namespace TC
open PySem PySem.Spec PyProof.Rows L2 TCA TCX
section
variable {X : Cx}
/-- sorted(d), the keys whole numbers, up to a thousand of them -/
theorem call_sortedMany (cm : X.calm = true) : CallR X (.builtin "sorted") (fun xs H Q => ∃ (d : Addr) (es : List (Key × V)) (js : List Int), xs = [.ref d] ∧ Rd H d (.dK es) ∧ es.map (·.1) = js.map Sum.inl ∧
    js.length ≤ 1000 ∧ ∀ (zs : List Int) (l : Addr), zs.Perm js → zs.Pairwise (· ≤ ·) → H l = none → Q (.ref l) (upd H l (.lst (zs.map V.int)))) := by
  intro pins st σ H xs us Q Iv rv hh
  obtain ⟨d, es, js, rfl, rd, ek, small, q⟩ := hh
  obtain ⟨w0, rfl, rw0⟩ := vals1 rv
  cases rw0
  obtain ⟨_, low, ws, rl, da⟩ := dk_rd Iv.hok rd
  obtain ⟨spot, at0⟩ := da.dictAt
  have kk : ws.map (·.1) = js.map Sum.inl := (rl.keys.symm).trans ek
  have wl : ws.length = js.length := by
    have := congrArg List.length kk
    simpa using this
  have fits : ∀ {n : Nat}, n = js.length → n ≤ sizeLine := fun {n} e => by
    rw [e]
    exact Nat.le_trans small (by decide)
  refine Calls.call_function_entry kind_sorted plain_sorted entry_sorted (args_sorted1 _) ?_
  unfold Builtin.«sorted»
  refine wpAny_bind (m := checkCount "sorted" 1 1 _) (wpAny_pure (wpAny_bind ?_))
  refine PySem.W.kdu_collect (A := X.A.in1) (PySem.W.kdl_dict (knd := mixKind X.prog X.w) (kvs := ws) (ep := spot) low) (Iv.ok.hd cm) at0 (fits wl) fun g tk got gk gg => ?_
  have gl : got.toList.length = js.length := by
    rw [Array.length_toList, gg.1, wl]
  have inS : IntsAre got.toList js := by
    refine ints_each gl fun n v e => ?_
    rw [Array.getElem?_toList] at e
    obtain ⟨key, _, f1, f2⟩ := gg.2 n v e
    have f3 := congrArg (fun z => z[n]?) kk
    simp only [List.getElem?_map, f1, Option.map_some] at f3
    cases f4 : js[n]? with
    | none =>
      rw [f4] at f3
      cases f3
    | some y =>
      rw [f4] at f3
      have f5 : key = Sum.inl y := Option.some.inj f3
      rw [f5] at f2
      rcases keyIs_shape (show keyIs (Sum.inl y) v = true from f2) with ⟨i, t, g1, g2⟩ | ⟨_, _, g1, _⟩
      · cases g1
        exact ⟨y, t, rfl, g2⟩
      · cases g1
  have Iv2 : Inv X pins σ H { st with heap := g, toks := tk } := Iv.kept gk
  refine wpAny_bind (wpAny_newList ?_ (fits gl))
  have lay := Heap.get?_push_size g (o := seqObj "list" got.toList.toArray 0) rfl
  show wpAny _ _ _ _ _ { st with heap := g.push (seqObj "list" got.toList.toArray 0), toks := tk }
  refine wpAny_bind (wpAny_holding (wpAny_call_entry slot_list_sort ⟨_, lay, rfl⟩ entry_list_sort ?_ (args_list_sort _)))
  refine SrtO.list_sort_ord SrtO.swo_int lay (fits gl) (fun two => SrtO.ints_sortable inS two) fun out s1 s2 => ⟨_, rfl, ?_⟩
  obtain ⟨o1, o2, o3⟩ := SrtO.ints_out inS s1 s2
  obtain ⟨c, at1⟩ := sortedHeap_at (vs := got.toList) (out := out.toArray) lay
  have inl := fits (show ((out.map SrtO.iv).map V.int).length = js.length by rw [List.length_map, o2.length_eq])
  refine wpAny_pure ⟨_, rfl, .ref g.objs.size, upd H g.objs.size (.lst ((out.map SrtO.iv).map V.int)), Iv2.laid (t' := tk) (fun b x e => ?_) (Nat.le_refl _)
      (show ObjOk X.prog X.w _ _ _ (.lst ((out.map SrtO.iv).map V.int)) from ⟨inl, out, c, vals_of_ints o1, at1⟩), rfl, q _ _ o2 o3 (Iv2.hok.fresh (Nat.le_refl _))⟩
  have less := Heap.lt_size e
  rw [sortedHeap_old (Nat.ne_of_lt less) (by rw [size_push']; exact Nat.lt_succ_of_lt less)]
  exact Heap.get?_push_of_some _ e
end
end TC
namespace TCX
open PySem PySem.Spec PyProof.Rows L2
/-- a promise kept as it is said: the unifier does not open it -/
structure Box (sp : Sp) (vs : List V) (H : Hp) (Q : VK) (E : XK) : Prop where
  out : sp vs H Q E
theorem boxed {P : Program} {w : World} {K : PySem.W.Frag} {mg : Str → Option Value} {base : Heap} {CX : CXT} {k : Nat} {f : Addr} {fd : FuncData} {ps : List Str} {sp : Sp} (F : FnOk P w K mg base CX k f fd ps sp) : FnOk P w K mg base CX k f fd ps (Box sp) :=
  ⟨fun vs H Q E h => F.len vs H Q E h.out, fun A outer s H args us vs Q E hr he hb hv hs => F.run A outer s H args us vs Q E hr he hb hv hs.out⟩
end TCX
/-! enumerate(list, start=k); zip(list, tuple). -/
namespace TCX
open PySem PySem.Spec PyProof.Rows L2
section
variable {M : Model} {A : Around} {E : Value → Shared → Prop} {s : Shared} {env : Env}
/-- a built-in class called with keywords -/
theorem callWith_typeK {pos : Pos} {T : String} {e : Expr} {rest : List Expr} {kws : List Keyword} {Q : Value → Shared → Prop}
    (h : wpAny M A (spliced (backTo pos (starEach (e :: rest) env))) (fun vs s1 => wpAny M A (evalAll ((backToKw pos (keywordEach kws env)).map (·.2)))
      (fun kvs s2 => wpAny M A (call (.type T) vs (((backToKw pos (keywordEach kws env)).filterMap (·.1)).zip kvs)) Q E s2) E s1) E s)
    (he : backTo pos (starEach (e :: rest) env) = (false, eval e env) :: backTo pos (starEach rest env))
    (hplain : (backTo pos (starEach (e :: rest) env)).any (·.1) = false)
    (hall : (backToKw pos (keywordEach kws env)).all (·.1.isSome) = true)
    (hkw : (backToKw pos (keywordEach kws env)).any (·.1.isNone) = false) :
    wpAny M A (callWith pos (.type T) [] (backTo pos (starEach (e :: rest) env)) (backToKw pos (keywordEach kws env))) Q E s := by
  unfold callWith
  rw [he] at h
  have h2 := h
  refine wpAny_bind (wpAny_holding (wpAny_mono (Q := fun a s1 => wpAny M A (call (.type T) a.pos a.kw) Q E s1) ?_ (fun a s1 h1 => wpAny_bind (wpAny_standAt ?_)) fun _ _ x => x))
  · rw [he]
    exact evalArgs_kwB hall h
  · simp only [hplain, hkw, Bool.or_false]
    refine wpAny_bind (wpAny_pure ?_)
    exact wpAny_bind (wpAny_mono h1 (fun r s2 hr => wpAny_bind (wpAny_holding (wpAny_point (wpAny_pure hr)))) fun _ _ x => x)
end
/-- the list at a of xs, each item in a new pair behind a number from k on -/
def Iek (K : PySem.W.Frag) (a : Addr) (xs : List V) (k : Int) : It :=
  ⟨fun i H => i < xs.length ∧ SqL K H a xs, fun i H v H' => ∃ T x, v = .ref T ∧ H T = none ∧ H' = upd H T (.tup [.int (k + (i : Nat)), x]) ∧ xs[i]? = some x, fun i H => xs.length ≤ i ∧ SqL K H a xs⟩
theorem turn_enumK {P : Program} {w : World} {K : PySem.W.Frag} {elts : List Expr} {kk : Nat} {tpos : Pos} (a e it : Addr) (xs : List V) (k : Int) :
    Turn P w K (.Tuple elts kk tpos) (Iek K a xs k) [e, it] e (fun i h => (∃ old, IsEnum h e it (k + ((i : Nat) : Int)) old) ∧ h.IsListIter it a i ∧ e ≠ it ∧ a ≠ it ∧ e ≠ a ∧ i ≤ xs.length) where
  mem := by simp
  obj := fun i h st b hb => by
    obtain ⟨⟨old, he⟩, ⟨o, ho, hc, hd⟩, _⟩ := st
    have e' : b = e ∨ b = it := by simpa using hb
    rcases e' with z | z
    · rw [z]; exact ⟨_, he, fun v q => nomatch q⟩
    · rw [z]; exact ⟨o, ho, fun v q => by rw [hd] at q; cases q⟩
  keep := fun i h h' st k => let ⟨⟨old, he⟩, hi, hne⟩ := st; ⟨⟨old, k e (by simp) _ he⟩, hi.at fun o q => k it (by simp) o q, hne⟩
  item := by
    intro X hP hw hK hc i pins s σ H E I hf st hg
    subst hP hw hK
    obtain ⟨⟨old, he⟩, hit, hne, hai, hea, hle⟩ := st
    obtain ⟨hlt, hq⟩ := hg
    obtain ⟨its, rv, p, hz⟩ := I.list hq
    have hl := rv.length
    have hel : e < s.heap.objs.size := Heap.lt_size he
    have hil : it < s.heap.objs.size := by obtain ⟨_, q, _⟩ := hit; exact Heap.lt_size q
    have hh : X.A.in1.handled = none := I.ok.hd hc
    have D := Draws.list (prog := X.prog) (w := X.w) hh it a hai its.toArray
    refine wpAny_pyNext_enum_itemC D he ⟨hit, p.isList⟩ (by simp; omega) hne (by simp; exact ⟨hne, hea⟩) fun u h' tk hu ho hst hT hsz hk => ?_
    obtain ⟨hit', _⟩ := hst
    have hu2 : its[i]? = some u := by simpa using hu
    have hx : xs[i]? = some xs[i] := List.getElem?_eq_getElem hlt
    obtain ⟨u2, hu3, ru⟩ := rv.get hx
    have eu : u2 = u := Option.some.inj (hu3.symm.trans hu2)
    subst eu
    refine ⟨_, rfl, wpAny_letOwnedTupleGo_enum (s := { s with heap := h', toks := tk + 1 }) ho fun h'' he' sb => ?_⟩
    have hT2 : h''.get? s.heap.objs.size = some { cls := .type "tuple", data := .seq #[.int (k + (i : Int)) tk, u2] } := (sb.2 _ (Nat.ne_of_gt hel)).trans hT
    have new : ObjOk X.prog X.w (upd H s.heap.objs.size (.tup [.int (k + (i : Nat)), xs[i]])) h'' s.heap.objs.size (.tup [.int (k + (i : Nat)), xs[i]]) :=
      ⟨by show 2 ≤ sizeLine; decide, [.int (k + (i : Int)) tk, u2], .cons ⟨_, rfl⟩ (.cons ru .nil), ⟨_, hT2, rfl, _, rfl⟩⟩
    have I1 : Inv X pins σ (upd H s.heap.objs.size (.tup [.int (k + (i : Nat)), xs[i]])) { s with heap := h'', toks := tk + 1 } :=
      I.turnedNew (ch := [e, it]) (fun b ob hb q => (sb.2 b (fun z => hb (by simp [z]))).trans (hk b ob (fun z => hb (by simp [z])) (fun z => hb (by simp [z])) q)) hf (Nat.le_refl _) new
    refine ⟨.ref s.heap.objs.size, _, I1, rfl, ⟨_, xs[i], rfl, I.hok.fresh (Nat.le_refl _), rfl, hx⟩, ⟨⟨u2, ?_⟩, hit'.at fun o q => (sb.2 it (Ne.symm hne)).trans q, hne, hai, hea, hlt⟩, fun b hb => ?_⟩
    · have e1 : k + ((i + 1 : Nat) : Int) = k + (i : Int) + 1 := by omega
      rw [e1]; exact he'
    · have hb' : b < s.heap.objs.size := by
        have e' : b = e ∨ b = it := by simpa using hb
        rcases e' with z | z
        · rw [z]; exact hel
        · rw [z]; exact hil
      rw [upd_ne (Nat.ne_of_lt hb')]
      exact (hf b hb).1
  done := by
    intro X hP hw hK hc i pins s σ H E I hf st hg
    subst hP hw hK
    obtain ⟨⟨old, he⟩, hit, hne, hai, hea, hle⟩ := st
    obtain ⟨hge, hq⟩ := hg
    obtain ⟨its, rv, p, hz⟩ := I.list hq
    obtain ⟨f0, f1, f2, f3, f4, f5⟩ := hf it (by simp)
    have hl := rv.length
    have hh : X.A.in1.handled = none := I.ok.hd hc
    have D := Draws.list (prog := X.prog) (w := X.w) hh it a hai its.toArray
    have ei : i = its.toArray.size := by simp; omega
    subst ei
    exact wpAny_pyNext_enum_endD D he ⟨hit, p.isList⟩ fun h' eb => ⟨rfl, I.turned (t' := s.toks) (fun b o hb q => eb b o hb q) f0 f1 f3 f4 f5⟩
  self := fun A i s Q E st h => let ⟨⟨_, he⟩, _⟩ := st; wpAny_pyIter_enum he h
def iEnumK (K : PySem.W.Frag) (ta tk : TA) : TI := fun σ H R => ta σ H fun vs H1 => tk σ H1 fun zs H2 => ∃ a xs k, vs = [.ref a] ∧ zs = [.int k] ∧ 0 ≤ k ∧ k ≤ 1000 ∧ SqL K H2 a xs ∧ R (Iek K a xs k) H2
theorem pi_enumK {X : Cx} {e ke : Expr} {ta tk : TA} {p pos tpos kp : Pos} {elts : List Expr} {kk : Nat} (hg : Gl X "enumerate") (hm : X.mg "enumerate" = none) (ha : PA X [e] ta) (hk : PK X [⟨some "start", ke, kp⟩] tk)
    (he : backTo pos (starEach [e] X.env) = (false, eval e X.env) :: backTo pos (starEach [] X.env) := by rfl) (hpl : (backTo pos (starEach [e] X.env)).any (·.1) = false := by rfl) :
    PI X (.Tuple elts kk tpos) (.Call (.Name "enumerate" p) [e] [⟨some "start", ke, kp⟩] pos) (iEnumK X.K ta tk) := by
  refine ⟨fun pins s σ H R I h => ?_⟩
  refine wpAny_Call_Name_kw (ld_blt I hg hm boot_enumerate ?_)
  refine callWith_typeK (thn (ha.run pos pins s σ H _ I h) fun us s1 ⟨vs, H1, I1, r1, q1⟩ => thn (hk.run pos pins s1 σ H1 _ I1 q1) fun ws s2 ⟨zs, H2, I2, r2, q2⟩ => ?_) he hpl rfl rfl
  obtain ⟨a, xs, k, ex, ez, k0, k1, hq, q⟩ := q2
  subst ex
  subst ez
  cases r1 with
  | cons r rr =>
    cases rr
    cases r
    cases r2 with
    | cons r rr =>
      cases rr
      obtain ⟨t, rfl⟩ := r
      obtain ⟨its, rv, p', hz⟩ := I2.list hq
      have hal : a < s2.heap.objs.size := p'.lt
      refine enum_begins_start (begins_list a its.toArray) p'.isList (by omega) (by omega) fun h' he hit hsz hkk => wpAny_pyIter_enum he ?_
      have I3 : Inv X pins σ H2 { s2 with heap := h' } := I2.kept (t' := s2.toks) hkk
      refine ⟨s2.heap.objs.size + 1, [s2.heap.objs.size + 1, s2.heap.objs.size], _, _, H2, rfl, I3, turn_enumK a (s2.heap.objs.size + 1) s2.heap.objs.size xs k, ⟨⟨.none, by simpa using he⟩, ⟨_, hit, rfl, rfl⟩, Nat.succ_ne_self _, Nat.ne_of_lt hal, Nat.ne_of_gt (Nat.lt_succ_of_lt hal), Nat.zero_le _⟩, fun b hb => ?_, q⟩
      have e' : b = s2.heap.objs.size + 1 ∨ b = s2.heap.objs.size := by simpa using hb
      have hle : s2.heap.objs.size ≤ b := by
        rcases e' with z | z
        · rw [z]; exact Nat.le_add_right _ _
        · rw [z]; exact Nat.le_refl _
      exact I2.fpOk hle (I2.hok.fresh hle)
/-! ### zip of a list and a tuple -/
def Izm (K : PySem.W.Frag) (a b : Addr) (xs ys : List V) : It :=
  ⟨fun i H => i < xs.length ∧ i < ys.length ∧ SqL K H a xs ∧ SqT K H b ys, fun i H v H' => ∃ T x y, v = .ref T ∧ H T = none ∧ H' = upd H T (.tup [x, y]) ∧ xs[i]? = some x ∧ ys[i]? = some y,
    fun i H => (i = xs.length ∨ i = ys.length) ∧ SqL K H a xs ∧ SqT K H b ys⟩
theorem turn_zipM {P : Program} {w : World} {K : PySem.W.Frag} {elts : List Expr} {kk : Nat} {tpos : Pos} {a b z TI TO i1 i2 : Addr} (D : ZipApart z TI TO i1 i2 a b) (xs ys : List V) :
    Turn P w K (.Tuple elts kk tpos) (Izm K a b xs ys) [z, TI, TO, i1, i2] z (fun i h => IsZip h z TI TO .none ∧ IsPair h TI (.ref i1) (.ref i2) ∧ (∃ x y, IsPair h TO x y) ∧ h.IsListIter i1 a i ∧ h.IsTupleIter i2 b i ∧ i ≤ xs.length ∧ i ≤ ys.length ∧ a ≠ i1 ∧ b ≠ i2) where
  mem := by simp
  obj := fun i h st c hc => by
    obtain ⟨hz, hTI, ⟨x, y, hTO⟩, ⟨o1, e1, _, d1⟩, ⟨o2, e2, _, d2⟩, _⟩ := st
    have e' : c = z ∨ c = TI ∨ c = TO ∨ c = i1 ∨ c = i2 := by simpa using hc
    rcases e' with q | q | q | q | q
    · rw [q]; exact ⟨_, hz, fun v q => nomatch q⟩
    · rw [q]; exact ⟨_, hTI, fun v q => nomatch q⟩
    · rw [q]; exact ⟨_, hTO, fun v q => nomatch q⟩
    · rw [q]; exact ⟨o1, e1, fun v q => by rw [d1] at q; cases q⟩
    · rw [q]; exact ⟨o2, e2, fun v q => by rw [d2] at q; cases q⟩
  keep := fun i h h' st k => by
    obtain ⟨hz, hTI, ⟨x, y, hTO⟩, h1, h2, hr⟩ := st
    exact ⟨k z (by simp) _ hz, k TI (by simp) _ hTI, ⟨x, y, k TO (by simp) _ hTO⟩, h1.at fun o q => k i1 (by simp) o q, h2.at fun o q => k i2 (by simp) o q, hr⟩
  item := by
    intro X hP hw hK hc i pins s σ H E I hf st hg
    subst hP hw hK
    obtain ⟨hz, hTI, ⟨x0, y0, hTO⟩, h1, h2, l1, l2, n1, n2⟩ := st
    obtain ⟨hlx, hly, hqx, hqy⟩ := hg
    obtain ⟨its, rv, p, _⟩ := I.list hqx
    obtain ⟨its2, rv2, p2, _⟩ := I.tuple hqy
    have e1 := rv.length
    have e2 := rv2.length
    have hx : xs[i]? = some xs[i] := List.getElem?_eq_getElem hlx
    have hy : ys[i]? = some ys[i] := List.getElem?_eq_getElem hly
    obtain ⟨u, hu, ru⟩ := rv.get hx
    obtain ⟨u2, hu2, ru2⟩ := rv2.get hy
    have hzl : z < s.heap.objs.size := Heap.lt_size hz
    have hh : X.A.in1.handled = none := I.ok.hd hc
    have D1 := Draws.list (prog := X.prog) (w := X.w) hh i1 a n1 its.toArray
    have D2 := Draws.tuple (prog := X.prog) (w := X.w) hh i2 b n2 its2.toArray
    have S : ZipSep2 z TI TO i1 i2 [i1, a] [i2, b] := ⟨D.TIz, D.TOz, D.TITO, D.TIi1, by simp, by simp; exact ⟨D.i1z.symm, D.l1z.symm⟩, by simp; exact ⟨D.TOi1, D.l1TO.symm⟩, D.TIi2, by simp, by simp; exact ⟨D.i2z.symm, D.l2z.symm⟩, by simp; exact ⟨D.TOi2, D.l2TO.symm⟩, by simp; exact ⟨D.i12, D.l2i1.symm⟩, by simp; exact ⟨D.i12.symm, D.l1i2.symm⟩⟩
    refine wpAny_pyNext_zipD2_item S D1 D2 hz hTI hTO ⟨h1, p.isList⟩ ⟨h2, p2⟩ (by simp; omega) (by simp; omega) fun x1 x2 h' tk y1 y2 z' TO' st1 st2 hT hsz hk => ?_
    obtain ⟨h1', _⟩ := st1
    obtain ⟨h2', _⟩ := st2
    have hu' : its[i]? = some x1 := by simpa using y1
    have hu2' : its2[i]? = some x2 := by simpa using y2
    have eu : u = x1 := Option.some.inj (hu.symm.trans hu')
    have eu2 : u2 = x2 := Option.some.inj (hu2.symm.trans hu2')
    subst eu
    subst eu2
    refine ⟨_, rfl, wpAny_letOwnedTupleGo_zip (s := { s with heap := h', toks := tk }) z' fun h'' z'' sb => ?_⟩
    have hT2 : h''.get? s.heap.objs.size = some { cls := .type "tuple", data := .seq #[u, u2] } := (sb.2 _ (Nat.ne_of_gt hzl)).trans hT
    have new : ObjOk X.prog X.w (upd H s.heap.objs.size (.tup [xs[i], ys[i]])) h'' s.heap.objs.size (.tup [xs[i], ys[i]]) :=
      ⟨by show 2 ≤ sizeLine; decide, [u, u2], .cons ru (.cons ru2 .nil), ⟨_, hT2, rfl, _, rfl⟩⟩
    have I1 : Inv X pins σ (upd H s.heap.objs.size (.tup [xs[i], ys[i]])) { s with heap := h'', toks := tk } :=
      I.turnedNew (t' := tk) (ch := [z, TI, TO, i1, i2]) (fun c o hb q => (sb.2 c (fun q' => hb (by simp [q']))).trans (hk c o (fun q' => hb (by simp [q'])) (fun q' => hb (by simp [q'])) (fun q' => hb (by simp [q'])) (fun q' => hb (by simp [q'])) q)) hf (Nat.le_refl _) new
    refine ⟨.ref s.heap.objs.size, _, I1, rfl, ⟨_, xs[i], ys[i], rfl, I.hok.fresh (Nat.le_refl _), rfl, hx, hy⟩, ⟨z'', ?_, ⟨u, u2, ?_⟩, ?_, ?_, hlx, hly, n1, n2⟩, fun c hcm => ?_⟩
    · exact (sb.2 _ D.TIz).trans (hk _ _ D.TIz D.TITO D.TIi1 D.TIi2 hTI)
    · exact (sb.2 _ D.TOz).trans TO'
    · exact h1'.at fun o q => (sb.2 _ D.i1z).trans q
    · exact h2'.at fun o q => (sb.2 _ D.i2z).trans q
    · have hlt : c < s.heap.objs.size := by
        have e' : c = z ∨ c = TI ∨ c = TO ∨ c = i1 ∨ c = i2 := by simpa using hcm
        rcases e' with q | q | q | q | q
        · rw [q]; exact hzl
        · rw [q]; exact Heap.lt_size hTI
        · rw [q]; exact Heap.lt_size hTO
        · rw [q]; obtain ⟨_, e1, _⟩ := h1; exact Heap.lt_size e1
        · rw [q]; obtain ⟨_, e2, _⟩ := h2; exact Heap.lt_size e2
      rw [upd_ne (Nat.ne_of_lt hlt)]
      exact (hf c hcm).1
  done := by
    intro X hP hw hK hc i pins s σ H E I hf st hg
    subst hP hw hK
    obtain ⟨hz, hTI, ⟨x0, y0, hTO⟩, h1, h2, l1, l2, n1, n2⟩ := st
    obtain ⟨hend, hqx, hqy⟩ := hg
    obtain ⟨its, rv, p, _⟩ := I.list hqx
    obtain ⟨its2, rv2, p2, _⟩ := I.tuple hqy
    have e1 := rv.length
    have e2 := rv2.length
    have hh : X.A.in1.handled = none := I.ok.hd hc
    have D1 := Draws.list (prog := X.prog) (w := X.w) hh i1 a n1 its.toArray
    have D2 := Draws.tuple (prog := X.prog) (w := X.w) hh i2 b n2 its2.toArray
    have S : ZipSep2 z TI TO i1 i2 [i1, a] [i2, b] := ⟨D.TIz, D.TOz, D.TITO, D.TIi1, by simp, by simp; exact ⟨D.i1z.symm, D.l1z.symm⟩, by simp; exact ⟨D.TOi1, D.l1TO.symm⟩, D.TIi2, by simp, by simp; exact ⟨D.i2z.symm, D.l2z.symm⟩, by simp; exact ⟨D.TOi2, D.l2TO.symm⟩, by simp; exact ⟨D.i12, D.l2i1.symm⟩, by simp; exact ⟨D.i12.symm, D.l1i2.symm⟩⟩
    exact wpAny_pyNext_zipD2_end S D1 D2 hz hTI hTO ⟨h1, p.isList⟩ ⟨h2, p2⟩ (by simp; omega) (by simp; omega) (by simp; omega) fun h' tk hk => ⟨rfl, I.turnedL (t' := tk) (ch := [z, TI, TO, i1, i2]) (fun c o hb q =>
      hk c o (fun q' => hb (by simp [q'])) (fun q' => hb (by simp [q'])) (fun q' => hb (by simp [q'])) (fun q' => hb (by simp [q'])) q) hf⟩
  self := fun A i s Q E st h => wpAny_pyIter_zip st.1 h
def iZipM (K : PySem.W.Frag) (ta : TA) : TI := fun σ H R => ta σ H fun vs H1 => ∃ a b xs ys, vs = [.ref a, .ref b] ∧ SqL K H1 a xs ∧ SqT K H1 b ys ∧ R (Izm K a b xs ys) H1
theorem pi_zipM {X : Cx} {e e2 : Expr} {ta : TA} {p pos tpos : Pos} {elts : List Expr} {kk : Nat} (hg : Gl X "zip") (hm : X.mg "zip" = none) (ha : PA X [e, e2] ta)
    (hs : starEach [e, e2] X.env = (false, eval e X.env) :: starEach [e2] X.env := by rfl) (hpl : (backTo pos (starEach [e2] X.env)).any (·.1) = false := by rfl) :
    PI X (.Tuple elts kk tpos) (.Call (.Name "zip" p) [e, e2] [] pos) (iZipM X.K ta) := by
  refine ⟨fun pins s σ H R I h => ?_⟩
  refine Call_ (ld_blt I hg hm PyProof.Rows.boot_zip (PyProof.Rows.callWith_type1 (thn (ha.run pos pins s σ H _ I h) fun us s1 ⟨vs, H1, I1, r1, q1⟩ => ?_) hs hpl))
  obtain ⟨a, b, xs, ys, ex, hqx, hqy, q⟩ := q1
  subst ex
  cases r1 with
  | cons r rr =>
    cases rr with
    | cons r' rr =>
      cases rr
      cases r
      cases r'
      have fresh5 : ∀ c, c ∈ [s1.heap.objs.size + 4, s1.heap.objs.size + 2, s1.heap.objs.size + 3, s1.heap.objs.size, s1.heap.objs.size + 1] → FpOk X pins H1 c := fun c hcm => by
        have e' : c = s1.heap.objs.size + 4 ∨ c = s1.heap.objs.size + 2 ∨ c = s1.heap.objs.size + 3 ∨ c = s1.heap.objs.size ∨ c = s1.heap.objs.size + 1 := by simpa using hcm
        have hle : s1.heap.objs.size ≤ c := by
          rcases e' with z | z | z | z | z
          · rw [z]; exact Nat.le_add_right _ _
          · rw [z]; exact Nat.le_add_right _ _
          · rw [z]; exact Nat.le_add_right _ _
          · rw [z]; exact Nat.le_refl _
          · rw [z]; exact Nat.le_add_right _ _
        exact I1.fpOk hle (I1.hok.fresh hle)
      obtain ⟨its, rv, p1, _⟩ := I1.list hqx
      obtain ⟨its2, rv2, p2, _⟩ := I1.tuple hqy
      obtain ⟨o2, ho2, _⟩ := id p2
      have al := p1.lt
      have bl := Heap.lt_size ho2
      refine zip_begins2 (begins_list a its.toArray) (begins_tuple b its2.toArray) p1.isList p2 fun h' hz hTI hTO h1 h2 hsz hk => wpAny_pyIter_zip hz ?_
      have I2 : Inv X pins σ H1 { s1 with heap := h' } := I1.kept (t' := s1.toks) hk
      exact ⟨s1.heap.objs.size + 4, [s1.heap.objs.size + 4, s1.heap.objs.size + 2, s1.heap.objs.size + 3, s1.heap.objs.size, s1.heap.objs.size + 1], _, _, H1, rfl, I2, turn_zipM (PySem.W.ktu_apart s1.heap.objs.size a b al bl) xs ys, ⟨hz, hTI, ⟨_, _, hTO⟩, ⟨_, h1, rfl, rfl⟩, ⟨_, h2, rfl, rfl⟩, Nat.zero_le _, Nat.zero_le _, Nat.ne_of_lt al, Nat.ne_of_lt (Nat.lt_succ_of_lt bl)⟩, fresh5, q⟩
end TCX
namespace TC
open PySem PySem.Spec PyProof.Rows L2 TCA TCX
theorem row_cons {H : Hp} {a : Addr} {rs : List Int} (h : Row H a rs) : ∃ r0 rest, rs = r0 :: rest := by
  match rs, h.ne with
  | r0 :: rest, _ => exact ⟨r0, rest, rfl⟩
theorem IntD.val {H : Hp} {p : Addr} {ks : List Int} {t : Int → Int} (h : IntD H p ks t) (u : Int) : pairI ks t (one u) = t u := by
  obtain ⟨n1, n2⟩ := IntD.nd h
  exact pair_one n1 n2
theorem row_inj {H : Hp} {a : Addr} {rs rs' : List Int} (h : Row H a rs) (h' : Row H a rs') : rs = rs' := by
  have e := h.at_.symm.trans h'.at_
  have e1 : rs.map V.int = rs'.map V.int := HO.lst.inj (Option.some.inj e)
  have inj : ∀ {l m : List Int}, l.map V.int = m.map V.int → l = m := by
    intro l
    induction l with
    | nil =>
      intro m e
      cases m with
      | nil => rfl
      | cons b m => cases e
    | cons a l ih =>
      intro m e
      cases m with
      | nil => cases e
      | cons b m =>
        simp only [List.map_cons, List.cons.injEq, V.int.injEq] at e
        rw [e.1, ih e.2]
  exact inj e1
/-- an own class over IndexError -/
structure ITxt (K : PySem.W.Frag) (mg : Str → Option Value) (x : Str) (C : Addr) : Prop where
  g : mg x = some (.ref C)
  e : PySem.W.excIn K C iBase "IndexError.__new__" = true
  k : PySem.W.keepIn K (.ref C) = true
  b : PySem.W.subIn K (.ref C) (.type "BaseException") = some true
  t : PySem.W.typeIn K (.ref C) = some (.type "type")
theorem walk_enumK {K : PySem.W.Frag} {a : Addr} {xs : List V} {k : Int} : Walk (Iek K a xs k) xs.length (fun H => SqL K H a xs) (fun i H v H' => ∃ T x, v = .ref T ∧ H T = none ∧ H' = upd H T (.tup [.int (k + (i : Nat)), x]) ∧ xs[i]? = some x) :=
  ⟨fun i _ hi q => ⟨hi, q⟩, fun _ q => ⟨Nat.le_refl _, q⟩, fun _ _ _ _ _ _ y => y⟩
theorem walk_zipM {K : PySem.W.Frag} {a b : Addr} {xs ys : List V} (e : xs.length = ys.length) : Walk (Izm K a b xs ys) xs.length (fun H => SqL K H a xs ∧ SqT K H b ys) (fun i H v H' => ∃ T x y, v = .ref T ∧ H T = none ∧ H' = upd H T (.tup [x, y]) ∧ xs[i]? = some x ∧ ys[i]? = some y) :=
  ⟨fun i _ hi q => ⟨hi, by omega, q.1, q.2⟩, fun _ q => ⟨.inl rfl, q.1, q.2⟩, fun _ _ _ _ _ _ y => y⟩
/-! ### the ways on, as they lie -/
def WayP (H : Hp) (d : Addr) (r : List Int) (n : Int) : Prop := ∃ ks t, IntD H d ks t ∧ (∀ u, 0 ≤ u → t u = rowT r (one n) u) ∧ ∀ u, 0 ≤ u → (u ∈ ks ↔ 0 < rowT r (one n) u)
theorem WayP.same {H H' : Hp} {d : Addr} {r : List Int} {n : Int} (h : WayP H d r n) (s : Same H H') : WayP H' d r n := by
  obtain ⟨ks, t, h1, h2⟩ := h
  exact ⟨ks, t, h1.same s, h2⟩
theorem WayP.isd {H : Hp} {d : Addr} {r : List Int} {n : Int} (h : WayP H d r n) : IsD H d := by
  obtain ⟨ks, t, ⟨kv, a1, _⟩, _⟩ := h
  exact .inl ⟨_, .inl a1⟩
theorem WayP.get {H : Hp} {d : Addr} {r : List Int} {n u : Int} (h : WayP H d r n) (hu : 0 ≤ u) : ∃ o, DGet H d (.int u) o ∧ o.getD (.int 0) = .int (rowT r (one n) u) ∧ o.isSome = decide (0 < rowT r (one n) u) := by
  obtain ⟨ks, t, hI, h2, h3⟩ := h
  obtain ⟨kvs, p1, p2, p3, p4, p5⟩ := id hI
  by_cases hk : u ∈ ks
  · refine ⟨_, dget_in p1 (p3 _ hk), ?_, ?_⟩
    · rw [← h2 u hu]
      rfl
    · rw [decide_eq_true ((h3 u hu).mp hk)]
      rfl
  · refine ⟨none, dget_out p1 (valV_out p2 hk), ?_, ?_⟩
    · rw [← h2 u hu, p5 _ hk]
      rfl
    · rw [decide_eq_false fun z => hk ((h3 u hu).mpr z)]
      rfl
def WaysP (H : Hp) (W : Addr) (rs : List Int) (n : Int) : Prop := ∃ ds : List Addr, H W = some (.lst (ds.map V.ref)) ∧ ds.length = rs.length ∧ ∀ (i : Nat) (d : Addr), ds[i]? = some d → WayP H d (rs.drop (i + 1)) n
theorem WaysP.same {H H' : Hp} {W : Addr} {rs : List Int} {n : Int} (h : WaysP H W rs n) (s : Same H H') : WaysP H' W rs n := by
  obtain ⟨ds, h1, h2, h3⟩ := h
  exact ⟨ds, s _ _ h1, h2, fun i d hi => (h3 i d hi).same s⟩
theorem WaysP.upd {H : Hp} {W L : Addr} {rs : List Int} {n : Int} {xs : List V} {o : HO} (h : WaysP H W rs n) (hne : W ≠ L) (hL : H L = some (.lst xs)) : WaysP (L2.upd H L o) W rs n := by
  obtain ⟨ds, h1, h2, h3⟩ := h
  refine ⟨ds, by rw [upd_ne hne]; exact h1, h2, fun i d hi => ?_⟩
  obtain ⟨ks, t, g1, g2⟩ := h3 i d hi
  exact ⟨ks, t, g1.upd (IntD.ne g1 hL), g2⟩
theorem WaysP.at {H : Hp} {W : Addr} {rs : List Int} {n : Int} (h : WaysP H W rs n) (i : Nat) (hi : i < rs.length) : ∃ xs d, H W = some (.lst xs) ∧ atI xs (i : Int) = some (.ref d) ∧ WayP H d (rs.drop (i + 1)) n := by
  obtain ⟨ds, h1, h2, h3⟩ := h
  obtain ⟨d, hd⟩ : ∃ d, ds[i]? = some d := ⟨_, List.getElem?_eq_getElem (by omega)⟩
  refine ⟨_, d, h1, atI_nat ?_, h3 i d hd⟩
  rw [List.getElem?_map, hd]
  rfl
/-- the reading of a dict's pairing from the other end -/
theorem back_val {rs : List Int} {n u : Int} {k : Nat} (hs : ∀ s ∈ rs, 0 ≤ s) (n0 : 0 ≤ n) (u0 : 0 ≤ u) (hk : k + 1 ≤ rs.length) : rowT ((back rs).take (rs.length - 1 - k)) (one u) n = rowT (rs.drop (k + 1)) (one n) u := by
  have e : rs.drop (k + 1) = ((back rs).take (rs.length - 1 - k)).reverse := by
    unfold back
    rw [List.take_reverse, List.reverse_reverse, List.drop_drop, List.length_drop]
    congr 1
    omega
  rw [e]
  refine rowT_back (fun s h => hs s ?_) n0 u0
  exact List.mem_of_mem_drop (List.mem_reverse.mp (List.mem_of_mem_take h))
theorem ways_told {H : Hp} {W : Addr} {ds : List Addr} {rs : List Int} {n : Int} (hs : ∀ s ∈ rs, 0 ≤ s) (n0 : 0 ≤ n) (hW : H W = some (.lst (ds.map V.ref).reverse)) (hl : ds.length = rs.length)
    (hI : ∀ (i : Nat) (d : Addr), ds[i]? = some d → IntQ H d 0 1000 fun g => rowT ((back rs).take i) g n) : WaysP H W rs n := by
  refine ⟨ds.reverse, by rw [hW, List.map_reverse], by rw [List.length_reverse, hl], fun i d hi => ?_⟩
  have hil : i < ds.length := by
    have := (List.getElem?_eq_some_iff.mp hi).1
    rw [List.length_reverse] at this
    exact this
  rw [List.getElem?_reverse hil] at hi
  obtain ⟨ks, t, hID, hp, hk⟩ := hI _ d hi
  have val : ∀ u, 0 ≤ u → t u = rowT (rs.drop (i + 1)) (one n) u := fun u u0 => by
    rw [← IntD.val hID u, hp, hl]
    exact back_val hs n0 u0 (by omega)
  refine ⟨ks, t, hID, val, fun u u0 => ⟨fun m => ?_, fun z => ?_⟩⟩
  · rw [← val u u0]
    exact (hk u m).2
  · refine Classical.byContradiction fun m => ?_
    rw [← val u u0, (IntD.nd hID).2 u m] at z
    exact absurd z (by decide)
theorem drop_at {rs : List Int} {j : Nat} {s : Int} (h : rs[j]? = some s) : rs.drop j = s :: rs.drop (j + 1) := by
  obtain ⟨hl, e⟩ := List.getElem?_eq_some_iff.mp h
  rw [← e]
  exact List.drop_eq_getElem_cons hl
section
variable {P : Program} {w : World} {K : PySem.W.Frag} {mg : Str → Option Value} {base : Heap} {f : Addr} {fd : FuncData} {CR CS CP : Addr}
theorem iteNF {c A B : Prop} [Decidable c] (hc : c) (h : B) : if (!decide c) = true then A else B := by
  rw [decide_eq_true hc]
  exact h
/-! ### label_at -/
def spLabelAt (K : PySem.W.Frag) (CR CS CP : Addr) : Sp := fun vs H Q E => ∃ (r p t : V) (b1 b2 : Bool), vs = [r, p, t] ∧ RowV K H r b1 ∧ Sml K 120 H t b2 ∧ (b1 = false → E (.ref CR) none H) ∧ (b1 = true → b2 = false → E (.ref CS) none H) ∧
  (b1 = true → b2 = true → ∀ (a : Addr) (r0 : Int) (rest : List Int) (n : Int), r = .ref a → Row H a (r0 :: rest) → t = .int n → ((∃ m, p = .int m) ∨ (NotInt K H p ∧ ∀ m, p ≠ .int m)) ∧
    (∀ H', Same H H' → (∀ m, p = .int m → ¬ (0 ≤ m ∧ m < rowT rest (one n) r0)) → E (.ref CP) none H') ∧
    ∀ m, p = .int m → 0 ≤ m → m < rowT rest (one n) r0 → ∀ (l : List Int) (T : Addr) H', Same H H' → H' T = some (.tup (l.map V.int)) → labB rest r0 l n → rankL rest r0 l n = m → Q (.ref T) H')
abbrev nLabelAt : List Str := ["row", "place", "to", "ways", "label", "far", "at", "size", "end", "count"]
theorem scLabelAt : FnScope nLabelAt ["row", "place", "to"] (defScope sLabelAt) := ⟨rfl, rfl, rfl, by decide +kernel, rfl, by decide +kernel, by decide +kernel⟩
theorem ok_labelAt {fN fY fW fE : Addr} {fdN fdY fdW fdE : FuncData} (F : FnP K "label_at" sLabelAt f fd) (GN0 : FnOk P w K mg base (L2.CX P w) 2 fN fdN ["row", "to"] (spNeedRow K CR CS)) (bN : L2.Binds K fdN ["row", "to"] []) (kN : PySem.W.keepIn K (.ref fN) = true) (gN : mg "need_row" = some (.ref fN))
    (GY : FnOk P w K mg base CX0 2 fY fdY ["row", "to"] spWays) (bY : L2.Binds K fdY ["row", "to"] []) (kY : PySem.W.keepIn K (.ref fY) = true) (gY : mg "ways_to" = some (.ref fY))
    (GW : FnOk P w K mg base CX0 1 fW fdW ["thing"] (spWhole K)) (bW : L2.Binds K fdW ["thing"] []) (kW : PySem.W.keepIn K (.ref fW) = true) (gW : mg "is_whole" = some (.ref fW))
    (GE : FnOk P w K mg base CX0 1 fE fdE ["one", "other"] spEnds) (bE : L2.Binds K fdE ["one", "other"] []) (kE : PySem.W.keepIn K (.ref fE) = true) (gE : mg "ends_of" = some (.ref fE))
    (XP : ITxt K mg "NoPlace" CP) (genum : mg "enumerate" = none) (gtuple : mg "tuple" = none) :
    FnOk P w K mg base (L2.CX P w) 3 f fd ["row", "place", "to"] (spLabelAt K CR CS CP) := by
  refine F.ok scLabelAt (fun vs H Q E h => ?_) (fun cdv A outer s H vs Q E hr h => ?_)
  · obtain ⟨_, _, _, _, _, rfl, _⟩ := h
    rfl
  · obtain ⟨r, p, t, b1, b2, rfl, hrow, ht, q1, q2, q3⟩ := h
    have hu := hu_of hr
    have GN := boxed GN0
    have hr1 := hr.mono (show 1 ≤ 2 by decide)
    refine ⟨_, pss_cons (ps_expr (pe_call GN hr (by rfl) gN kN bN .nil (passes_call (takes_of rfl rfl rfl rfl) fun _ _ _ _ z => z) (pa_cons (pv 0) (pa_cons (pv 2) pa_nil))))
      (pss_cons (ps_set (i := 3) scLabelAt.nd rfl (.inl rfl) (pe_call GY hr (by rfl) gY kY bY .nil pass0 (pa_cons (pv 0) (pa_cons (pv 2) pa_nil))))
      (pss_cons (ps_if (PW.pt (pw_or (pt_not (pt_val (pe_call GW hr1 (by rfl) gW kW bW .nil pass0 (pa_cons (pv 1) pa_nil)))) (pw_or1 (pt_not (pt_chain op_le op_lt pe_int (pv 1) (pe_dget2 hu (pe_ix ix_list (pv 3) pe_int (fun _ _ => rfl)) (pe_ix ix_list (pv 0) pe_int (fun _ _ => rfl)) pe_int ⟨rfl, rfl, rfl, rfl⟩)))))) (pss_one (ps_raise rfl (takes_of rfl rfl rfl rfl) (pmk_own PySem.F.excBase_IndexError XP.e XP.g XP.k (raises_own XP.b XP.t) rfl))) pss_nil)
      (pss_cons (ps_par (i := 4) (j := 5) (by rfl) scLabelAt.nd rfl rfl (by decide) rfl rfl (pa_cons (pe_lst pa_nil) (pa_cons (pe_ix ix_list (pv 0) pe_int (fun _ _ => rfl)) pa_nil)) (by rfl))
      (pss_cons (ps_for (passes_of rfl) rfl (pi_enumK (by rfl) genum (pa_cons (pe_slice sl_list (pv 0) (po_some pe_int) po_none) pa_nil) (pk_cons pe_int pk_nil)) (pg_tup rfl (pgs_cons (pg_name (i := 6) scLabelAt.nd rfl (.inl rfl)) (pgs_cons (pg_name (i := 7) scLabelAt.nd rfl (.inl rfl)) pgs_nil)))
        (C8.pss_cut (ps_for (passes_of rfl) rfl (pi_list (pe_call GE hr1 (by rfl) gE kE bE .nil pass0 (pa_cons (pv 5) (pa_cons (pv 7) pa_nil)))) (pg_name (i := 8) scLabelAt.nd rfl (.inl rfl))
          (pss_cons (ps_set (i := 9) scLabelAt.nd rfl (.inl rfl) (pe_dget2 hu (pe_ix ix_list (pv 3) (pv 6) (fun _ _ => rfl)) (pv 8) pe_int ⟨rfl, rfl, rfl, rfl⟩))
          (pss_cons (ps_if (pt_cmpR op_lt (pv 1) (pv 9) (nomark _)) (pss_one ps_break) pss_nil)
          (pss_one (ps_aug (i := 1) scLabelAt.nd rfl (.inl rfl) (pv 9) ip_sub)))))
        (pss_cons (ps_set (i := 5) scLabelAt.nd rfl (.inl rfl) (pv 8))
        (pss_one (ps_expr (pe_bm PySem.F.plainAttrs_list PySem.F.slot_list_append PySem.F.type_list_append mt_append (pv 4) (pa_cons (pv 5) pa_nil)))))))
      (pss_one (ps_ret (pe_callTy call_tuple_of (by rfl) gtuple (by decide +kernel) (pa_cons (pv 4) pa_nil)))))))), ?_⟩
    refine ⟨_, rfl, _, rfl, ⟨r, t, b1, b2, rfl, hrow, ht, q1, q2, fun e1 e2 => ?_⟩⟩
    subst e1 e2
    obtain ⟨a, rs, rfl, hR⟩ := hrow.yes
    obtain ⟨n, rfl, n0, n1⟩ := ht.yes
    obtain ⟨r0, rest, rfl⟩ := row_cons hR
    obtain ⟨hp, qE, qQ⟩ := q3 rfl rfl a r0 rest n rfl hR rfl
    clear q1 q2 q3 hrow ht
    have hsz : ∀ s ∈ rest, 0 ≤ s ∧ s ≤ 12 := fun s hs => hR.sz s (List.mem_cons_of_mem _ hs)
    have hs0 : ∀ s ∈ r0 :: rest, 0 ≤ s := fun s hs => (hR.sz s hs).1
    have r01 := hR.sz r0 (by simp)
    refine ⟨_, rfl, _, rfl, a, r0 :: rest, n, rfl, hR, n0, n1, fun W ds H1 s1 hW0 hl hI => ?_⟩
    have hW : WaysP H1 W (r0 :: rest) n := ways_told hs0 n0 hW0 hl hI
    clear hW0 hl hI ds
    obtain ⟨xs0, d0, hx0, ha0, hd0⟩ := hW.at 0 (by simp)
    have bad : (∀ m, p = .int m → ¬ (0 ≤ m ∧ m < rowT rest (one n) r0)) → E (.ref CP) none H1 := qE H1 s1
    rcases hp with ⟨m, rfl⟩ | ⟨hn, hn2⟩
    rotate_left
    · exact ⟨_, rfl, .inr ⟨p, rfl, hn.same s1, false, rfl, iteT (iteT (bad fun m e => absurd e (hn2 m)))⟩⟩
    refine ⟨_, rfl, .inl ⟨m, rfl, true, rfl, iteF ?_⟩⟩
    refine ⟨_, rfl, 0, m, rfl, rfl, _, rfl, iteB (fun y1 => ?_) fun y1 => ?_⟩
    rotate_left
    · exact ⟨_, rfl, iteT (bad fun m' e => by cases e; have := of_decide_eq_false y1; omega)⟩
    have m0 : 0 ≤ m := of_decide_eq_true y1
    obtain ⟨o, dg, eo, _⟩ := hd0.get (u := r0) r01.1
    refine ⟨_, rfl, W, _, 0, _, rfl, rfl, SqL.of hx0, ha0, d0, rfl, hd0.isd, _, rfl, a, _, 0, .int r0, rfl, rfl, SqL.of (s1 _ _ hR.at_), atI_nat (j := 0) rfl, o, dg, ?_⟩
    rw [eo]
    refine ⟨m, _, rfl, rfl, _, rfl, ?_⟩
    by_cases z2 : m < rowT rest (one n) r0
    rotate_left
    · refine iteNT z2 (bad fun m' e => ?_)
      cases e
      exact fun z => z2 z.2
    refine iteNF z2 ?_
    refine ⟨by show 0 ≤ sizeLine; decide, fun L hL => ?_⟩
    have s2 := same_upd (o := .lst []) hL
    have WL : W ≠ L := ne_of_none hx0 hL
    have hW2 := hW.same s2
    have aL : a ≠ L := ne_of_none (s1 _ _ hR.at_) hL
    refine ⟨_, rfl, a, _, 0, .int r0, rfl, rfl, SqL.of ((s1.trans s2) _ _ hR.at_), atI_nat (j := 0) rfl, ?_⟩
    refine ⟨_, _, rfl, _, rfl, 1, rfl, a, _, rfl, SqL.of ((s1.trans s2) _ _ hR.at_), fun sl hsl => ?_⟩
    have ecut : cutV ((r0 :: rest).map V.int) (some 1) none = rest.map V.int := cut_drop (xs := (r0 :: rest).map V.int) (k := 1)
    rw [ecut]
    have s3 := same_upd (o := .lst (rest.map V.int)) hsl
    refine ⟨sl, _, 1, rfl, rfl, by decide, by decide, SqL.of upd_same, ?_⟩
    have l10 : rest.length + 1 ≤ 10 := hR.le
    have slL : sl ≠ L := fun e => by
      rw [e, upd_same] at hsl
      cases hsl
    refine for_it (walk_enumK (K := K) (a := sl) (xs := rest.map V.int) (k := 1)) (fun j σ H' => ∃ (x pl : Int) (l : List Int) (v6 v7 v8 v9 : Option V), σ = [some (.ref a), some (.int pl), some (.int n), some (.ref W), some (.ref L), some (.int x), v6, v7, v8, v9] ∧ Same H H' ∧ H' L = some (.lst (l.map V.int)) ∧ H' sl = some (.lst (rest.map V.int)) ∧ WaysP H' W (r0 :: rest) n ∧ H L = none ∧
        0 ≤ x ∧ x ≤ 12 + 12 * (j : Int) ∧ l.length = j ∧ 0 ≤ pl ∧ pl < rowT (rest.drop j) (one n) x ∧ ∀ l2, labB (rest.drop j) x l2 n → rankL (rest.drop j) x l2 n = pl → labB rest r0 (l ++ l2) n ∧ rankL rest r0 (l ++ l2) n = m)
      ⟨r0, m, [], none, none, none, none, rfl, (s1.trans s2).trans s3, s3 _ _ upd_same, upd_same, hW2.same s3, s1.free hL, r01.1, by omega, rfl, m0, z2, fun l2 h1 h2 => ⟨h1, h2⟩⟩ (fun j σ H' _ hP => ?_) (fun j v σ H' H'' hj hP hy => ?_) (fun σ H' hP => ?_)
    · obtain ⟨_, _, _, _, _, _, _, _, _, _, z, _⟩ := hP
      exact SqL.of z
    rotate_left
    · obtain ⟨x, pl, l, v6, v7, v8, v9, rfl, sm, hLl, hsl', hW', hLn, x0, x1, hl, p0, p1, hall⟩ := hP
      rw [List.length_map, List.drop_length] at p1 hall
      have ex : x = n ∧ pl = 0 := by
        have p1' : pl < one n x := p1
        unfold one at p1'
        split at p1'
        · exact ⟨by assumption, by omega⟩
        · omega
      obtain ⟨rfl, rfl⟩ := ex
      obtain ⟨g1, g2⟩ := hall [] rfl rfl
      rw [List.append_nil] at g1 g2
      exact ⟨_, rfl, L, _, rfl, .inl ⟨SqL.of hLl, fun T hT => qQ m rfl m0 z2 l T _ (sm.trans (same_upd hT)) upd_same g1 g2⟩⟩
    obtain ⟨T, v, rfl, hT, rfl, hv⟩ := hy
    obtain ⟨x, pl, l, v6, v7, v8, v9, rfl, sm, hLl, hsl', hW', hLn, x0, x1, hl, p0, p1, hall⟩ := hP
    obtain ⟨sz, hj', rfl⟩ : ∃ sz : Int, rest[j]? = some sz ∧ v = .int sz := by
      rw [List.getElem?_map] at hv
      cases e : rest[j]? with
      | none =>
        rw [e] at hv
        cases hv
      | some z =>
        rw [e] at hv
        exact ⟨z, rfl, (Option.some.inj hv).symm⟩
    obtain ⟨z0, z1⟩ := hsz sz (List.mem_of_getElem? hj')
    have hjl : j < rest.length := (List.getElem?_eq_some_iff.mp hj').1
    rw [drop_at hj'] at p1 hall
    have sT := same_upd (o := .tup [.int (1 + (j : Nat)), .int sz]) hT
    refine ⟨T, _, rfl, SqT.of upd_same, rfl, _, _, rfl, _, _, rfl, rfl, ?_⟩
    have hL2 := sT _ _ hLl
    have hsl2 := sT _ _ hsl'
    have hWT := hW'.same sT
    have smT := sm.trans sT
    generalize upd H' T (.tup [.int (1 + (j : Nat)), .int sz]) = G at hL2 hsl2 hWT smT ⊢
    refine ⟨fun σ G' => ∃ (i : Nat) (v9 : Option V), i < manyE x sz ∧ σ = [some (.ref a), some (.int (pl - runS (rowT (rest.drop (j + 1)) (one n)) (loJ x sz) i)), some (.int n), some (.ref W), some (.ref L), some (.int x), some (.int (1 + (j : Nat))), some (.int sz), some (.int (loJ x sz + 2 * (i : Int))), v9] ∧
      Same G G' ∧ 0 ≤ pl - runS (rowT (rest.drop (j + 1)) (one n)) (loJ x sz) i ∧ pl - runS (rowT (rest.drop (j + 1)) (one n)) (loJ x sz) i < rowT (rest.drop (j + 1)) (one n) (loJ x sz + 2 * (i : Int)), ?_, fun σ G' hM => ?_⟩
    · refine ⟨_, rfl, _, rfl, x, sz, rfl, x0, by omega, z0, by omega, fun le hle => ?_⟩
      have s4 := same_upd (o := .lst (upV (loJ x sz) (manyE x sz))) hle
      obtain ⟨xsW, d, hxW, haW, hdW⟩ := hWT.at (1 + j) (by show 1 + j < rest.length + 1; omega)
      have ed : (r0 :: rest).drop (1 + j + 1) = rest.drop (j + 1) := by
        rw [show 1 + j + 1 = (j + 1) + 1 by omega]
        rfl
      rw [ed] at hdW
      have eat : ((1 + j : Nat) : Int) = 1 + (j : Int) := by omega
      rw [eat] at haW
      refine ⟨le, rfl, ⟨_, SqL.of upd_same⟩, for_list (K := K) (a := le) (xs := upV (loJ x sz) (manyE x sz)) (fun i σ G' => ∃ (v8 v9 : Option V), σ = [some (.ref a), some (.int (pl - runS (rowT (rest.drop (j + 1)) (one n)) (loJ x sz) i)), some (.int n), some (.ref W), some (.ref L), some (.int x), some (.int (1 + (j : Nat))), some (.int sz), v8, v9] ∧
        Same G G' ∧ G' le = some (.lst (upV (loJ x sz) (manyE x sz))) ∧ 0 ≤ pl - runS (rowT (rest.drop (j + 1)) (one n)) (loJ x sz) i)
        ⟨v8, v9, ?_, s4, upd_same, ?_⟩ (fun i σ G' _ hP => ?_) (fun i v σ G' hv hP => ?_) (fun σ G' hP => ?_)⟩
      · have e0 : pl - runS (rowT (rest.drop (j + 1)) (one n)) (loJ x sz) 0 = pl := Int.sub_zero pl
        rw [e0]
        rfl
      · show 0 ≤ pl - 0
        omega
      · obtain ⟨_, _, _, _, z, _⟩ := hP
        exact SqL.of z
      · obtain ⟨v8, v9, rfl, sG, hle', pn⟩ := hP
        obtain ⟨hi, rfl⟩ := up_at hv
        have l0 := loJ_nn x sz
        obtain ⟨o, dg, eo, _⟩ := (hdW.same sG).get (u := loJ x sz + 2 * (i : Int)) (by omega)
        refine ⟨_, rfl, _, rfl, W, _, _, _, rfl, rfl, SqL.of (sG _ _ hxW), haW, d, rfl, (hdW.same sG).isd, _, rfl, o, dg, ?_⟩
        rw [eo]
        refine ⟨_, rfl, _, rfl, _, _, rfl, rfl, _, rfl, iteB (fun y => ?_) fun y => ?_⟩
        · exact ⟨i, _, hi, rfl, sG, pn, of_decide_eq_true y⟩
        · have y' := of_decide_eq_false y
          refine ⟨_, rfl, _, rfl, _, _, rfl, rfl, ⟨some (.int (loJ x sz + 2 * (i : Int))), some (.int (rowT (rest.drop (j + 1)) (one n) (loJ x sz + 2 * (i : Int)))), ?_, sG, hle', ?_⟩⟩
          · rw [runS_succ]
            have ee : pl - runS (rowT (rest.drop (j + 1)) (one n)) (loJ x sz) i - rowT (rest.drop (j + 1)) (one n) (loJ x sz + 2 * (i : Int)) = pl - (runS (rowT (rest.drop (j + 1)) (one n)) (loJ x sz) i + rowT (rest.drop (j + 1)) (one n) (loJ x sz + 2 * (i : Int))) := by omega
            rw [← ee]
            rfl
          · rw [runS_succ]
            omega
      · obtain ⟨v8, v9, rfl, sG, hle', pn⟩ := hP
        rw [upV_length] at pn
        have p1' : pl < runS (rowT (rest.drop (j + 1)) (one n)) (loJ x sz) (manyE x sz) := p1
        omega
    obtain ⟨i, w9, hi, rfl, sG, pn, pw⟩ := hM
    have hLG := sG _ _ hL2
    have c : inJ x sz (loJ x sz + 2 * (i : Int)) := ⟨i, hi, rfl⟩
    have c0 := inJ_nn c
    have c1 := inJ_le x0 z0 c
    refine ⟨_, rfl, ?_⟩
    refine ⟨_, rfl, .inl ⟨rfl, _, SqL.of hLG⟩, _, rfl, L, _, _, rfl, rfl, hLG, ?_, _, _, l ++ [loJ x sz + 2 * (i : Int)], _, _, _, _, rfl, ?_, ?_, ?_, (hWT.same sG).upd WL hLG, hLn, c0, ?_, ?_, pn, pw, fun l2 h1 h2 => ?_⟩
    · rw [List.length_map, sizeLine_eq]
      omega
    · intro b o e
      rw [upd_ne fun z => by rw [z, hLn] at e; cases e]
      exact sG _ _ (smT _ _ e)
    · rw [upd_same, List.map_append]
      rfl
    · rw [upd_ne slL]
      exact sG _ _ hsl2
    · omega
    · rw [List.length_append, hl]
      rfl
    · rw [List.append_assoc]
      refine hall ((loJ x sz + 2 * (i : Int)) :: l2) ⟨c, h1⟩ ?_
      show lessS _ _ _ _ + rankL _ _ _ _ = _
      rw [less_run _ _ _ _ (by omega), h2]
      omega
end
end TC
namespace TC
open PySem PySem.Spec PyProof.Rows L2 TCA TCX
/-- what a spoilt label is made of -/
def Flt (x : V) : Prop := (∃ n, x = .int n) ∨ x = .non ∨ (∃ b, x = .bl b) ∨ ∃ z, x = .str z
theorem Flt.no {K : PySem.W.Frag} {H : Hp} {x : V} (h : Flt x) : (∃ n, x = .int n) ∨ (NotInt K H x ∧ ∀ n, x ≠ .int n) := by
  rcases h with h | rfl | ⟨b, rfl⟩ | ⟨z, rfl⟩
  · exact .inl h
  · exact .inr ⟨⟨_, false, false, .base .non, kit_ty (by decide +kernel), kit_ty (by decide +kernel), rfl⟩, fun n e => by cases e⟩
  · exact .inr ⟨⟨_, true, true, .base (.bl b), kit_ty (by decide +kernel), kit_ty (by decide +kernel), rfl⟩, fun n e => by cases e⟩
  · exact .inr ⟨⟨_, false, false, .base (.str z), kit_ty (by decide +kernel), kit_ty (by decide +kernel), rfl⟩, fun n e => by cases e⟩
/-- v is no tuple, or a tuple of such things -/
def LabV (K : PySem.W.Frag) (H : Hp) (v : V) (o : Option (List V)) : Prop := (o = none ∧ ∃ t, TyX K H v t ∧ PySem.W.kitOne K t (.type "tuple") = some false) ∨ ∃ (a : Addr) (vs : List V), v = .ref a ∧ H a = some (.tup vs) ∧ o = some vs ∧ ∀ x ∈ vs, Flt x
theorem LabV.same {K : PySem.W.Frag} {H H' : Hp} {v : V} {o : Option (List V)} (h : LabV K H v o) (s : Same H H') : LabV K H' v o := by
  rcases h with ⟨e, t, h1, h2⟩ | ⟨a, vs, e1, h1, h2⟩
  · exact .inl ⟨e, t, TyX.same h1 s, h2⟩
  · exact .inr ⟨a, vs, e1, s _ _ h1, h2⟩
def GoodL (rest : List Int) (r0 n : Int) (o : Option (List V)) : Prop := ∃ l : List Int, o = some (l.map V.int) ∧ labB rest r0 l n
theorem map_inj : ∀ {l m : List Int}, l.map V.int = m.map V.int → l = m := by
  intro l
  induction l with
  | nil =>
    intro m e
    cases m with
    | nil => rfl
    | cons b m => cases e
  | cons a l ih =>
    intro m e
    cases m with
    | nil => cases e
    | cons b m =>
      simp only [List.map_cons, List.cons.injEq, V.int.injEq] at e
      rw [e.1, ih e.2]
theorem inV_up {x s c : Int} : inV (.int c) (upV (loJ x s) (manyE x s)) = decide (inJ x s c) := by
  by_cases h : inJ x s c
  · rw [decide_eq_true h]
    obtain ⟨i, hi, e⟩ := h
    unfold inV
    refine List.any_eq_true.mpr ⟨.int c, ?_, ?_⟩
    · unfold upV
      refine List.mem_map.mpr ⟨i, List.mem_range.mpr hi, ?_⟩
      show V.int (loJ x s + (i : Int) * 2) = V.int c
      rw [e, Int.mul_comm]
    · simp [eqV]
  · rw [decide_eq_false h]
    unfold inV
    refine List.any_eq_false.mpr fun y hy => ?_
    obtain ⟨i, hi⟩ := List.mem_iff_getElem?.mp hy
    obtain ⟨hi2, rfl⟩ := up_at hi
    intro e
    refine h ⟨i, hi2, ?_⟩
    have e2 : (c == loJ x s + 2 * (i : Int)) = true := by
      first
        | exact e
        | (have := e; simp [eqV] at this; simp [this])
    exact eq_of_beq e2
theorem flat_up (a : Int) (n : Nat) : (upV a n).all flatV = true := by
  unfold upV
  rw [List.all_map]
  exact List.all_eq_true.mpr fun _ _ => rfl
section
variable {P : Program} {w : World} {K : PySem.W.Frag} {mg : Str → Option Value} {base : Heap} {f : Addr} {fd : FuncData} {CR CS CP : Addr}
/-! ### place_of -/
def spPlaceOf (K : PySem.W.Frag) (CR CS CP : Addr) : Sp := fun vs H Q E => ∃ (r v t : V) (b1 b2 : Bool), vs = [r, v, t] ∧ RowV K H r b1 ∧ Sml K 120 H t b2 ∧ (b1 = false → E (.ref CR) none H) ∧ (b1 = true → b2 = false → E (.ref CS) none H) ∧
  (b1 = true → b2 = true → ∀ (a : Addr) (r0 : Int) (rest : List Int) (n : Int), r = .ref a → Row H a (r0 :: rest) → t = .int n → ∃ o, LabV K H v o ∧
    (¬ GoodL rest r0 n o → ∀ H', Same H H' → E (.ref CP) none H') ∧
    ∀ l, o = some (l.map V.int) → labB rest r0 l n → ∀ H', Same H H' → Q (.int (rankL rest r0 l n)) H')
abbrev nPlaceOf : List Str := ["row", "label", "to", "ways", "place", "far", "at", "size", "chosen", "ends", "end"]
theorem scPlaceOf : FnScope nPlaceOf ["row", "label", "to"] (defScope sPlaceOf) := ⟨rfl, rfl, rfl, by decide +kernel, rfl, by decide +kernel, by decide +kernel⟩
theorem ok_placeOf {fN fY fW fE : Addr} {fdN fdY fdW fdE : FuncData} (F : FnP K "place_of" sPlaceOf f fd) (GN0 : FnOk P w K mg base (L2.CX P w) 2 fN fdN ["row", "to"] (spNeedRow K CR CS)) (bN : L2.Binds K fdN ["row", "to"] []) (kN : PySem.W.keepIn K (.ref fN) = true) (gN : mg "need_row" = some (.ref fN))
    (GY : FnOk P w K mg base CX0 2 fY fdY ["row", "to"] spWays) (bY : L2.Binds K fdY ["row", "to"] []) (kY : PySem.W.keepIn K (.ref fY) = true) (gY : mg "ways_to" = some (.ref fY))
    (GW : FnOk P w K mg base CX0 1 fW fdW ["thing"] (spWhole K)) (bW : L2.Binds K fdW ["thing"] []) (kW : PySem.W.keepIn K (.ref fW) = true) (gW : mg "is_whole" = some (.ref fW))
    (GE : FnOk P w K mg base CX0 1 fE fdE ["one", "other"] spEnds) (bE : L2.Binds K fdE ["one", "other"] []) (kE : PySem.W.keepIn K (.ref fE) = true) (gE : mg "ends_of" = some (.ref fE))
    (XP : ITxt K mg "NoPlace" CP) (genum : mg "enumerate" = none) (gtuple : mg "tuple" = none) (gisinstance : mg "isinstance" = none) (glen : mg "len" = none) (gsum : mg "sum" = none) :
    FnOk P w K mg base (L2.CX P w) 3 f fd ["row", "label", "to"] (spPlaceOf K CR CS CP) := by
  refine F.ok scPlaceOf (fun vs H Q E h => ?_) (fun cdv A outer s H vs Q E hr h => ?_)
  · obtain ⟨_, _, _, _, _, rfl, _⟩ := h
    rfl
  · obtain ⟨r, v, t, b1, b2, rfl, hrow, ht, q1, q2, q3⟩ := h
    have hu := hu_of hr
    have GN := boxed GN0
    have hr1 := hr.mono (show 1 ≤ 2 by decide)
    refine ⟨_, pss_cons (ps_expr (pe_call GN hr (by rfl) gN kN bN .nil (passes_call (takes_of rfl rfl rfl rfl) fun _ _ _ _ z => z) (pa_cons (pv 0) (pa_cons (pv 2) pa_nil))))
      (pss_cons (ps_set (i := 3) scPlaceOf.nd rfl (.inr rfl) (pe_call GY hr (by rfl) gY kY bY .nil pass0 (pa_cons (pv 0) (pa_cons (pv 2) pa_nil))))
      (pss_cons (ps_if (PW.pt (pw_or (pt_cmp (pc_dnotin hu (pe_ix ix_list (pv 0) pe_int (fun _ _ => rfl)) (pe_ix ix_list (pv 3) pe_int (fun _ _ => rfl)))) (pw_or (pt_not (pt_val (pe_callB call_isi (by rfl) gisinstance (by decide +kernel) (pa_cons (pv 1) (pa_cons (pe_bltn (v := .ty "tuple") (by rfl) gtuple (by decide +kernel) rfl) pa_nil))))) (pw_or1 (pt_cmpR op_ne (pe_callB call_len_seq (by rfl) glen PySem.boot_len (pa_cons (pv 1) pa_nil)) (pe_op op_sub (pe_callB call_len_seq (by rfl) glen PySem.boot_len (pa_cons (pv 0) pa_nil)) pe_int) (nomark _)))))) (pss_one (ps_raise rfl (takes_of rfl rfl rfl rfl) (pmk_own PySem.F.excBase_IndexError XP.e XP.g XP.k (raises_own XP.b XP.t) rfl))) pss_nil)
      (pss_cons (ps_par (i := 4) (j := 5) (by rfl) scPlaceOf.nd rfl rfl (by decide) rfl rfl (pa_cons pe_int (pa_cons (pe_ix ix_list (pv 0) pe_int (fun _ _ => rfl)) pa_nil)) (by rfl))
      (pss_cons (ps_for (passes_of rfl) rfl (pi_enumK (by rfl) genum (pa_cons (pe_slice sl_list (pv 0) (po_some pe_int) po_none) pa_nil) (pk_cons pe_int pk_nil)) (pg_tup rfl (pgs_cons (pg_name (i := 6) scPlaceOf.nd rfl (.inr rfl)) (pgs_cons (pg_name (i := 7) scPlaceOf.nd rfl (.inl rfl)) pgs_nil)))
        (pss_cons (ps_set (i := 8) scPlaceOf.nd rfl (.inr rfl) (pe_ix ix_tup (pv 1) (pe_op op_sub (pv 6) pe_int) (fun _ _ => rfl)))
        (pss_cons (ps_set (i := 9) scPlaceOf.nd rfl (.inl rfl) (pe_call GE hr1 (by rfl) gE kE bE .nil pass0 (pa_cons (pv 5) (pa_cons (pv 7) pa_nil))))
        (pss_cons (ps_if (PW.pt (pw_or (pt_not (pt_val (pe_call GW hr1 (by rfl) gW kW bW .nil pass0 (pa_cons (pv 8) pa_nil)))) (pw_or (pt_cmpR op_notIn_seq (pv 8) (pv 9) (by with_unfolding_all rfl)) (pw_or1 (pt_cmp (pc_dnotin hu (pv 8) (pe_ix ix_list (pv 3) (pv 6) (fun _ _ => rfl)))))))) (pss_one (ps_raise rfl (takes_of rfl rfl rfl rfl) (pmk_own PySem.F.excBase_IndexError XP.e XP.g XP.k (raises_own XP.b XP.t) rfl))) pss_nil)
        (pss_cons (ps_aug (i := 4) scPlaceOf.nd rfl (.inl rfl) (pe_callB (cr_sum rfl) (by rfl) gsum (by decide +kernel) (pa_cons (pe_lc (own := [("end", 10)]) (g := gName 10) (tt := tTest (tOp (rI0 fun i j => .bl (decide (i < j))) (tVar 10) (tVar 8))) (te := tDGet2 (tOp (rIxL K) (tVar 3) (tVar 6)) (tVar 10) (tC (.int 0))) (by rfl) scPlaceOf.nd (pi_list (pv 9))
          (blkOk_by (N := nPlaceOf) (sc := defScope sPlaceOf) (by decide +kernel)) (fun _ _ _ _ _ => pg_name (i := 10) scPlaceOf.nd rfl (.inl rfl)) (fun _ _ _ _ _ => pts_one (pt_cmpR op_lt (pv 10) (pv 8) (nomark _))) (fun _ _ _ _ _ => (pe_dget2 hu (pe_ix ix_list (pv 3) (pv 6) (fun _ _ => rfl)) (pv 10) pe_int ⟨rfl, rfl, rfl, rfl⟩))) pa_nil)) ip_add)
        (pss_one (ps_set (i := 5) scPlaceOf.nd rfl (.inl rfl) (pv 8))))))))
      (pss_one (ps_ret (pv 4))))))), ?_⟩
    refine ⟨_, rfl, _, rfl, ⟨r, t, b1, b2, rfl, hrow, ht, q1, q2, fun e1 e2 => ?_⟩⟩
    subst e1 e2
    obtain ⟨a, rs, rfl, hR⟩ := hrow.yes
    obtain ⟨n, rfl, n0, n1⟩ := ht.yes
    obtain ⟨r0, rest, rfl⟩ := row_cons hR
    obtain ⟨o, hv, qE, qQ⟩ := q3 rfl rfl a r0 rest n rfl hR rfl
    clear q1 q2 q3 hrow ht
    have hsz : ∀ s ∈ rest, 0 ≤ s ∧ s ≤ 12 := fun s hs => hR.sz s (List.mem_cons_of_mem _ hs)
    have hs0 : ∀ s ∈ r0 :: rest, 0 ≤ s := fun s hs => (hR.sz s hs).1
    have r01 := hR.sz r0 (by simp)
    have l10 : rest.length + 1 ≤ 10 := hR.le
    refine ⟨_, rfl, _, rfl, a, r0 :: rest, n, rfl, hR, n0, n1, fun W ds H1 s1 hW0 hl hI => ?_⟩
    have hW : WaysP H1 W (r0 :: rest) n := ways_told hs0 n0 hW0 hl hI
    clear hW0 hl hI ds
    obtain ⟨xs0, d0, hx0, ha0, hd0⟩ := hW.at 0 (by simp)
    have bad : ¬ GoodL rest r0 n o → E (.ref CP) none H1 := fun h => qE h H1 s1
    obtain ⟨o1, dg, _, eo⟩ := hd0.get (u := r0) r01.1
    refine ⟨_, rfl, a, _, 0, .int r0, rfl, rfl, SqL.of (s1 _ _ hR.at_), atI_nat (j := 0) rfl, _, rfl, W, _, 0, _, rfl, rfl, SqL.of hx0, ha0, d0, o1, rfl, dg, ?_⟩
    rw [eo]
    by_cases w0 : 0 < rowT ((r0 :: rest).drop (0 + 1)) (one n) r0
    rotate_left
    · rw [decide_eq_false w0]
      refine ⟨_, rfl, iteT (iteT (bad fun ⟨l, _, h2⟩ => w0 (lab_pos h2)))⟩
    rw [decide_eq_true w0]
    refine ⟨_, rfl, iteF ?_⟩
    rcases hv with ⟨rfl, ty, h1, h2⟩ | ⟨b, vs, rfl, hb, rfl, hf⟩
    · exact ⟨_, rfl, _, _, _, _, false, rfl, .ty "tuple", TyX.same h1 s1, h2, false, rfl, iteT (iteT (bad fun ⟨l, e, _⟩ => by cases e))⟩
    refine ⟨_, rfl, _, _, _, _, true, rfl, .ty "tuple", .base (.tup (s1 _ _ hb)), kit_ty (by decide +kernel), true, rfl, iteF ?_⟩
    refine ⟨_, rfl, b, _, rfl, .inr (SqT.of (s1 _ _ hb)), _, rfl, a, _, rfl, .inl (SqL.of (s1 _ _ hR.at_)), _, 1, rfl, rfl, rfl, _, rfl, ?_⟩
    by_cases hlen : vs.length = rest.length
    rotate_left
    · refine iteNT (ine ?_) (bad fun ⟨l, e, h2⟩ => hlen ?_)
      · rw [List.length_map, List.length_cons]
        omega
      · rw [Option.some.inj e, List.length_map]
        exact lab_len h2
    have elen : V.int (vs.length : Int) = V.int ((((r0 :: rest).map V.int).length : Int) - 1) := by
      rw [List.length_map, List.length_cons, hlen]
      congr 1
      omega
    refine iteNF elen ?_
    refine ⟨_, rfl, a, _, 0, .int r0, rfl, rfl, SqL.of (s1 _ _ hR.at_), atI_nat (j := 0) rfl, _, _, rfl, ?_⟩
    refine ⟨_, rfl, 1, rfl, a, _, rfl, SqL.of (s1 _ _ hR.at_), fun sl hsl => ?_⟩
    have ecut : cutV ((r0 :: rest).map V.int) (some 1) none = rest.map V.int := cut_drop (xs := (r0 :: rest).map V.int) (k := 1)
    rw [ecut]
    have s3 := same_upd (o := .lst (rest.map V.int)) hsl
    refine ⟨sl, _, 1, rfl, rfl, by decide, by decide, SqL.of upd_same, ?_⟩
    refine for_it (walk_enumK (K := K) (a := sl) (xs := rest.map V.int) (k := 1)) (fun j σ H' => ∃ (x acc : Int) (v6 v7 v8 v9 v10 : Option V), σ = [some (.ref a), some (.ref b), some (.int n), some (.ref W), some (.int acc), some (.int x), v6, v7, v8, v9, v10] ∧ Same H H' ∧ H' sl = some (.lst (rest.map V.int)) ∧ WaysP H' W (r0 :: rest) n ∧
        0 ≤ x ∧ x ≤ 12 + 12 * (j : Int) ∧ 0 < rowT (rest.drop j) (one n) x ∧ (∀ l : List Int, vs = l.map V.int → labB rest r0 l n → labB (rest.drop j) x (l.drop j) n ∧ rankL rest r0 l n = acc + rankL (rest.drop j) x (l.drop j) n) ∧
        ∀ l2 : List Int, vs.drop j = l2.map V.int → labB (rest.drop j) x l2 n → GoodL rest r0 n (some vs))
      ⟨r0, 0, none, none, none, none, none, rfl, s1.trans s3, upd_same, hW.same s3, r01.1, by omega, w0, fun l e h => ⟨h, by rw [Int.zero_add]; rfl⟩, fun l2 e h => ⟨l2, by rw [← e]; rfl, h⟩⟩ (fun j σ H' _ hP => ?_) (fun j v σ H' H'' hj hP hy => ?_) (fun σ H' hP => ?_)
    · obtain ⟨_, _, _, _, _, _, _, _, _, z, _⟩ := hP
      exact SqL.of z
    rotate_left
    · obtain ⟨x, acc, v6, v7, v8, v9, v10, rfl, sm, hsl', hW', x0, x1, xw, hA, hB⟩ := hP
      rw [List.length_map] at hA hB xw
      rw [List.drop_length] at hA hB xw
      have ex : x = n := by
        have xw' : 0 < one n x := xw
        unfold one at xw'
        split at xw'
        · assumption
        · omega
      have hd : vs.drop rest.length = ([] : List Int).map V.int := List.drop_of_length_le (by omega)
      obtain ⟨l, e, h2⟩ := hB [] hd ex
      obtain ⟨_, er⟩ := hA l (Option.some.inj e) h2
      have e0 : rankL rest r0 l n = acc := by
        rw [er]
        have : ∀ y z, rankL [] y z n = 0 := fun y z => by cases z <;> rfl
        rw [this, Int.add_zero]
      rw [← e0]
      exact ⟨_, rfl, qQ l e h2 _ sm⟩
    obtain ⟨T, v, rfl, hT, rfl, hv⟩ := hy
    obtain ⟨x, acc, v6, v7, v8, v9, v10, rfl, sm, hsl', hW', x0, x1, xw, hA, hB⟩ := hP
    obtain ⟨sz, hj', rfl⟩ : ∃ sz : Int, rest[j]? = some sz ∧ v = .int sz := by
      rw [List.getElem?_map] at hv
      cases e : rest[j]? with
      | none =>
        rw [e] at hv
        cases hv
      | some z =>
        rw [e] at hv
        exact ⟨z, rfl, (Option.some.inj hv).symm⟩
    obtain ⟨z0, z1⟩ := hsz sz (List.mem_of_getElem? hj')
    have hjl : j < rest.length := (List.getElem?_eq_some_iff.mp hj').1
    rw [drop_at hj'] at xw hA hB
    have sT := same_upd (o := .tup [.int (1 + (j : Nat)), .int sz]) hT
    refine ⟨T, _, rfl, SqT.of upd_same, rfl, _, _, rfl, _, _, rfl, rfl, ?_⟩
    have hsl2 := sT _ _ hsl'
    have hWT := hW'.same sT
    have smT := sm.trans sT
    generalize upd H' T (.tup [.int (1 + (j : Nat)), .int sz]) = G at hsl2 hWT smT ⊢
    obtain ⟨y, hy⟩ : ∃ y, vs[j]? = some y := ⟨_, List.getElem?_eq_getElem (by omega)⟩
    have hyj : atI vs (1 + (j : Int) - 1) = some y := by
      rw [show 1 + (j : Int) - 1 = (j : Int) by omega]
      exact atI_nat hy
    refine ⟨_, rfl, _, rfl, _, 1, rfl, rfl, b, _, _, y, rfl, rfl, SqT.of (smT _ _ hb), hyj, ?_⟩
    refine ⟨_, rfl, _, rfl, x, sz, rfl, x0, by omega, z0, by omega, fun le hle => ?_⟩
    have s4 := same_upd (o := .lst (upV (loJ x sz) (manyE x sz))) hle
    have sm4 := smT.trans s4
    have bad4 : ¬ GoodL rest r0 n (some vs) → E (.ref CP) none (upd G le (.lst (upV (loJ x sz) (manyE x sz)))) := fun h => qE h _ sm4
    have good_at : ∀ l : List Int, vs = l.map V.int → ∃ c, y = .int c ∧ l.drop j = c :: l.drop (j + 1) := fun l e => by
      rw [e, List.getElem?_map] at hy
      cases ez : l[j]? with
      | none =>
        rw [ez] at hy
        cases hy
      | some c =>
        rw [ez] at hy
        exact ⟨c, (Option.some.inj hy).symm, drop_at ez⟩
    rcases (hf y (List.mem_of_getElem? hy)).no (K := K) (H := upd G le (.lst (upV (loJ x sz) (manyE x sz)))) with ⟨c, rfl⟩ | ⟨hn, hn2⟩
    rotate_left
    · exact ⟨_, rfl, .inr ⟨y, rfl, hn, false, rfl, iteT (iteT (bad4 fun ⟨l, e, h2⟩ => by
        obtain ⟨c, ec, _⟩ := good_at l (Option.some.inj e)
        exact hn2 c ec))⟩⟩
    have good_c : GoodL rest r0 n (some vs) → inJ x sz c ∧ 0 < rowT (rest.drop (j + 1)) (one n) c := fun ⟨l, e, h2⟩ => by
      obtain ⟨c', ec, ed⟩ := good_at l (Option.some.inj e)
      cases ec
      obtain ⟨h3, _⟩ := hA l (Option.some.inj e) h2
      rw [ed] at h3
      exact ⟨h3.1, lab_pos h3.2⟩
    refine ⟨_, rfl, .inl ⟨c, rfl, true, rfl, iteF ?_⟩⟩
    refine ⟨_, rfl, _, rfl, le, _, rfl, .inl (SqL.of upd_same), rfl, flat_up _ _, _, rfl, ?_⟩
    show if (!inV (.int c) (upV (loJ x sz) (manyE x sz))) = true then _ else _
    rw [inV_up]
    by_cases cj : inJ x sz c
    rotate_left
    · exact iteNT cj (iteT (bad4 fun h => cj (good_c h).1))
    refine iteNF cj ?_
    have c0 := inJ_nn cj
    have c1 := inJ_le x0 z0 cj
    obtain ⟨xsW, d, hxW, haW, hdW⟩ := (hWT.same s4).at (1 + j) (by show 1 + j < rest.length + 1; omega)
    have ed : (r0 :: rest).drop (1 + j + 1) = rest.drop (j + 1) := by
      rw [show 1 + j + 1 = (j + 1) + 1 by omega]
      rfl
    rw [ed] at hdW
    have eat : ((1 + j : Nat) : Int) = 1 + (j : Int) := by omega
    rw [eat] at haW
    obtain ⟨o2, dg2, _, eo2⟩ := hdW.get (u := c) c0
    refine ⟨_, rfl, _, rfl, _, rfl, W, _, _, _, rfl, rfl, SqL.of hxW, haW, d, o2, rfl, dg2, ?_⟩
    rw [eo2]
    by_cases cw : 0 < rowT (rest.drop (j + 1)) (one n) c
    rotate_left
    · rw [decide_eq_false cw]
      exact ⟨_, rfl, iteT (bad4 fun h => cw (good_c h).2)⟩
    rw [decide_eq_true cw]
    refine ⟨_, rfl, iteF ?_⟩
    refine ⟨_, rfl, _, rfl, le, rfl, ⟨_, SqL.of upd_same⟩, fun D hD => ?_⟩
    have DW : W ≠ D := ne_of_none hxW hD
    refine lc_list (K := K) (a := le) (xs := upV (loJ x sz) (manyE x sz)) (fun i H2 => ∃ ns : List Int, H2 D = some (.lst (ns.map V.int)) ∧ ns.length ≤ i ∧ ns.sum = runS (fun y => if y < c then rowT (rest.drop (j + 1)) (one n) y else 0) (loJ x sz) i ∧ ∀ b o, upd G le (.lst (upV (loJ x sz) (manyE x sz))) b = some o → H2 b = some o)
      ⟨[], upd_same, Nat.zero_le _, rfl, same_upd hD⟩ (fun i H2 _ hP => ?_) (fun i v H2 hv hP => ?_) (fun H2 hP => ?_)
    · obtain ⟨_, _, _, _, z⟩ := hP
      exact SqL.of (z _ _ upd_same)
    · obtain ⟨ns, hDl, hnl, hns, keep⟩ := hP
      obtain ⟨hi, rfl⟩ := up_at hv
      have l0 := loJ_nn x sz
      refine ⟨rfl, _, rfl, _, rfl, _, _, rfl, rfl, _, rfl, iteB (fun y => ?_) fun y => ?_⟩
      · obtain ⟨o3, dg3, eo3, _⟩ := (hdW.same keep).get (u := loJ x sz + 2 * (i : Int)) (by omega)
        refine ⟨_, rfl, _, rfl, W, _, _, _, rfl, rfl, SqL.of (keep _ _ hxW), haW, d, rfl, (hdW.same keep).isd, _, rfl, o3, dg3, ?_⟩
        rw [eo3]
        refine ⟨_, hDl, ?_, ns ++ [rowT (rest.drop (j + 1)) (one n) (loJ x sz + 2 * (i : Int))], ?_, ?_, ?_, fun b o e => ?_⟩
        · rw [List.length_map, sizeLine_eq]
          have : manyE x sz ≤ 13 := by
            unfold manyE
            split <;> omega
          omega
        · rw [upd_same, List.map_append]
          rfl
        · rw [List.length_append]
          exact Nat.succ_le_succ hnl
        · rw [runS_succ, List.sum_append, hns]
          show _ + (_ + 0) = _
          rw [Int.add_zero, if_pos (of_decide_eq_true y)]
        · rw [upd_ne (ne_of_none e hD)]
          exact keep b o e
      · refine ⟨ns, hDl, Nat.le_succ_of_le hnl, ?_, keep⟩
        rw [runS_succ, hns, if_neg (of_decide_eq_false y), Int.add_zero]
    · obtain ⟨ns, hDl, hnl, hns, keep⟩ := hP
      rw [upV_length] at hns
      refine ⟨D, ns, rfl, SqL.of hDl, _, _, rfl, rfl, ?_⟩
      refine ⟨_, rfl, c, _, _, _, _, _, _, rfl, sm4.trans keep, keep _ _ (s4 _ _ hsl2), (hWT.same s4).same keep, c0, by omega, cw, fun l e h => ?_, fun l2 e h => ?_⟩
      · obtain ⟨c', ec, ed'⟩ := good_at l e
        cases ec
        obtain ⟨h3, h4⟩ := hA l e h
        rw [ed'] at h3 h4
        refine ⟨h3.2, ?_⟩
        rw [h4, hns]
        show acc + (lessS _ _ _ _ + _) = acc + runS _ _ _ + _
        unfold lessS
        omega
      · refine hB (c :: l2) ?_ ⟨cj, h⟩
        obtain ⟨hl', e'⟩ := List.getElem?_eq_some_iff.mp hy
        rw [List.drop_eq_getElem_cons hl', e', e]
        rfl
end
end TC
namespace TC
open PySem PySem.Spec PyProof.Rows L2 TCA TCX
theorem ways_told2 {H : Hp} {W : Addr} {ds : List Addr} {rs : List Int} {n : Int} (hs : ∀ s ∈ rs, 0 ≤ s) (n0 : 0 ≤ n) (hW : H W = some (.lst (ds.map V.ref))) (hl : ds.length = rs.length)
    (hI : ∀ (i : Nat) (d : Addr), ds[i]? = some d → IntQ H d 0 1000 fun g => rowT ((back rs).take (rs.length - 1 - i)) g n) : WaysP H W rs n := by
  refine ways_told (ds := ds.reverse) hs n0 (by rw [hW, List.map_reverse, List.reverse_reverse]) (by rw [List.length_reverse, hl]) fun i d hi => ?_
  have hil : i < ds.length := by
    have := (List.getElem?_eq_some_iff.mp hi).1
    rw [List.length_reverse] at this
    exact this
  rw [List.getElem?_reverse hil] at hi
  have z := hI _ d hi
  rw [show rs.length - 1 - (ds.length - 1 - i) = i by omega] at z
  exact z
section
variable {P : Program} {w : World} {K : PySem.W.Frag} {mg : Str → Option Value} {base : Heap} {f : Addr} {fd : FuncData}
/-! ### _law_after -/
def spAfter : Sp := fun vs H Q _ => ∃ (a : Addr) (rs : List Int) (n : Int), vs = [.ref a, .int n] ∧ Row H a rs ∧ 0 ≤ n ∧ n ≤ 120 ∧
  ∀ (W : Addr) H', Same H H' → WaysP H' W rs n → Q (.ref W) H'
abbrev nAfter : List Str := ["_law_row_here", "_law_size", "_law_found", "_law_one", "_law_fresh", "_law_other", "_law_here"]
theorem scAfter : FnScope nAfter ["_law_row_here", "_law_size"] (defScope sAfter) := ⟨rfl, rfl, rfl, by decide +kernel, rfl, by decide +kernel, by decide +kernel⟩
theorem ok_after {fJ : Addr} {fdJ : FuncData} (F : FnP K "_law_after" sAfter f fd) (GJ : FnOk P w K mg base CX0 1 fJ fdJ ["_law_one", "_law_other"] spEnds) (bJ : L2.Binds K fdJ ["_law_one", "_law_other"] []) (kJ : PySem.W.keepIn K (.ref fJ) = true) (gJ : mg "_law_joints" = some (.ref fJ)) :
    FnOk P w K mg base CX0 2 f fd ["_law_row_here", "_law_size"] spAfter := by
  refine F.ok scAfter (fun vs H Q E h => ?_) (fun cdv A outer s H vs Q E hr h => ?_)
  · obtain ⟨_, _, _, rfl, _⟩ := h
    rfl
  · obtain ⟨a, rs, n, rfl, hrow, n0, n1, q⟩ := h
    have hu := hu_of hr
    refine ⟨_, PSs.nox (C8.pss_cut (ps_set (i := 2) scAfter.nd rfl (.inl rfl) (pe_lst (pa_cons (pe_disp (pps_cons (pv 1) pe_int pps_nil) (by rfl) (by rfl) (fun z => by cases z) (by decide)) pa_nil)))
      (pss_cons (ps_for PassesOwn.never rfl (pi_list (pe_slice3 (pv 0) po_none (po_some pe_int) (po_some (pe_un un_neg pe_int)))) (pg_name (i := 3) scAfter.nd rfl (.inl rfl))
        (pss_cons (ps_set (i := 4) scAfter.nd rfl (.inl rfl) pe_dnewK)
        (C8.pss_cut (ps_lock (ps_for PassesOwn.never rfl (pi_keys (pe_ix ix_list (pv 2) pe_int (fun _ _ => rfl))) (pg_name (i := 5) scAfter.nd rfl (.inl rfl))
          (pss_one (ps_for PassesOwn.never rfl (pi_list (pe_call GJ hr (by rfl) gJ kJ bJ .nil pass0 (pa_cons (pv 5) (pa_cons (pv 3) pa_nil)))) (pg_name (i := 6) scAfter.nd rfl (.inl rfl))
            (pss_one (ps_dput hu (pv 4) (pv 6) (pe_op op_add (pe_dget2 hu (pv 4) (pv 6) pe_int ⟨rfl, rfl, rfl, rfl⟩) (pe_dget hu (pe_ix ix_list (pv 2) pe_int (fun _ _ => rfl)) (pv 5) (fun _ _ => rfl))) rfl))))))
        (pss_one (ps_set (i := 2) scAfter.nd rfl (.inl rfl) (pe_op op_cat (pe_lst (pa_cons (pv 4) pa_nil)) (pv 2)))))))
      (pss_one (ps_ret (pv 2))))), ?_⟩
    have hlen : (back rs).length + 1 = rs.length := by
      have := hrow.ne
      rw [List.length_reverse, List.length_drop]
      omega
    have hsz : ∀ s ∈ back rs, 0 ≤ s ∧ s ≤ 12 := fun s hs => hrow.sz s (List.mem_of_mem_drop (List.mem_reverse.mp hs))
    refine ⟨fun σ H' => ∃ (L d : Addr), σ = [some (.ref a), some (.int n), some (.ref L), none, none, none, none] ∧ H' L = some (.lst [.ref d]) ∧ Same H H' ∧ IntQ H' d 0 120 (fun g => g n), ?_, fun σ H1 hM => ?_⟩
    · intro d hd
      have s1 := same_upd (o := .dK [((Sum.inl n : Key), V.int 1)]) hd
      refine ⟨_, rfl, upd_same, [(Sum.inl n, .int 1)], rfl, by show 1 ≤ 15; decide, ?_⟩
      have e1 : upd (upd H d (.dK [])) d (.dK (mergeK [] [((Sum.inl n : Key), V.int 1)])) = upd H d (.dK [((Sum.inl n : Key), V.int 1)]) := by
        funext b
        by_cases hb : b = d
        · rw [hb, upd_same, upd_same]
          rfl
        · rw [upd_ne hb, upd_ne hb, upd_ne hb]
      rw [e1]
      refine ⟨by show 1 ≤ sizeLine; decide, fun W hW => ?_⟩
      have s2 := same_upd (o := .lst [.ref d]) hW
      exact ⟨W, d, rfl, upd_same, s1.trans s2, one_dict (s2 _ _ upd_same) n0 n1⟩
    obtain ⟨L0, d0, rfl, hL1, s1, hd0⟩ := hM
    have ha1 := s1 _ _ hrow.at_
    have est : stepV (rs.map V.int) none (some 0) (some (-1)) = (back rs).map V.int := by
      rw [step_tail, ← List.map_drop, ← List.map_reverse]
    refine ⟨_, rfl, 0, rfl, 1, rfl, -1, rfl, a, _, rfl, SqL.of ha1, by decide, ?_, fun sl hsl => ?_⟩
    · rw [est, List.length_map, sizeLine_eq]
      have := hrow.le
      omega
    rw [est]
    have s2 := same_upd (o := .lst ((back rs).map V.int)) hsl
    refine ⟨sl, rfl, ⟨_, SqL.of upd_same⟩, for_list (K := K) (a := sl) (xs := (back rs).map V.int) (fun j σ H' => ∃ (L : Addr) (v3 v4 v5 v6 : Option V) (ds : List Addr), σ = [some (.ref a), some (.int n), some (.ref L), v3, v4, v5, v6] ∧ H' L = some (.lst (ds.map V.ref)) ∧ ds.length = j + 1 ∧ H' sl = some (.lst ((back rs).map V.int)) ∧ Same H H' ∧ ∀ (i : Nat) (d : Addr), ds[i]? = some d → IntQ H' d 0 (120 + 12 * (j : Int)) fun g => rowT ((back rs).take (j - i)) g n)
      ⟨L0, none, none, none, none, [d0], rfl, s2 _ _ hL1, rfl, upd_same, s1.trans s2, fun i d hi => ?_⟩ (fun j σ H' _ hP => ?_) (fun j x σ H' hx hP => ?_) (fun σ H' hP => ?_)⟩
    · match i, hi with
      | 0, hi =>
        cases hi
        exact IntQ.le (hd0.same s2) (Int.le_refl _) (by omega)
      | i + 1, hi => cases hi
    · obtain ⟨_, _, _, _, _, _, _, _, _, z, _⟩ := hP
      exact SqL.of z
    rotate_left
    · obtain ⟨L, v3, v4, v5, v6, ds, rfl, hL, hds, hsl', sm, hI⟩ := hP
      rw [List.length_map] at hds
      refine ⟨_, rfl, q L H' sm (ways_told2 (fun s hs => (hrow.sz s hs).1) n0 hL (by omega) fun i d hi => ?_)⟩
      have z := hI i d hi
      rw [List.length_map, show (back rs).length - i = rs.length - 1 - i by omega] at z
      refine IntQ.le z (Int.le_refl _) ?_
      have := hrow.le
      omega
    obtain ⟨L, v3, v4, v5, v6, ds, rfl, hL, hds, hsl', sm, hI⟩ := hP
    obtain ⟨sz, hj, rfl⟩ : ∃ sz : Int, (back rs)[j]? = some sz ∧ x = .int sz := by
      rw [List.getElem?_map] at hx
      cases e : (back rs)[j]? with
      | none =>
        rw [e] at hx
        cases hx
      | some z =>
        rw [e] at hx
        exact ⟨z, rfl, (Option.some.inj hx).symm⟩
    obtain ⟨z0, z1⟩ := hsz sz (List.mem_of_getElem? hj)
    have hjl : j < (back rs).length := (List.getElem?_eq_some_iff.mp hj).1
    have j9 : j ≤ 9 := by
      have := hrow.le
      omega
    obtain ⟨d, hd⟩ : ∃ d, ds[0]? = some d := ⟨_, List.getElem?_eq_getElem (by omega)⟩
    have hat : atI (ds.map V.ref) 0 = some (.ref d) := atI_nat (j := 0) (by rw [List.getElem?_map, hd]; rfl)
    intro p hp
    have sp := same_upd (o := .dK []) hp
    obtain ⟨ks, t, hID, hpair, hks⟩ := hI 0 d hd
    rw [Nat.sub_zero] at hpair
    obtain ⟨kv, a1, a2, a3, a4, a5⟩ := id hID
    have lk := len_keys a2
    have npd : p ≠ d := (ne_of_none a1 hp).symm
    have Ld : L ≠ d := fun e => by
      rw [e, a1] at hL
      cases hL
    refine ⟨fun σ G => ∃ (v5 v6 : Option V), σ = [some (.ref a), some (.int n), some (.ref L), some (.int sz), some (.ref p), v5, v6] ∧ (∀ b o, H' b = some o → G b = some o) ∧ IntQ G p 0 (120 + 12 * ((j + 1 : Nat) : Int)) (fun g => rowT ((back rs).take (j + 1)) g n), ?_, fun σ G hM => ?_⟩
    · refine ⟨d, .dK kv, sp _ _ a1, trivial, fun o1 => ?_⟩
      refine ⟨_, rfl, L, _, 0, .ref d, rfl, rfl, SqL.of (by rw [upd_ne Ld]; exact sp _ _ hL), hat, d, o1, rfl, .inl ⟨kv, upd_same, ?_⟩⟩
      refine for_it (walk_keys (d := d) (o := o1) (kvs := kv)) (fun i σ G => ∃ (v5 v6 : Option V) (ks' : List Int) (t' : Int → Int), σ = [some (.ref a), some (.int n), some (.ref L), some (.int sz), some (.ref p), v5, v6] ∧ G d = some (.frz o1 (.dK kv)) ∧ (∀ b o, H' b = some o → b ≠ d → G b = some o) ∧
          IntD G p ks' t' ∧ (∀ g, pairI ks' t' g = pairI (ks.take i) t (opT sz g)) ∧ ∀ r ∈ ks', (0 ≤ r ∧ r ≤ 120 + 12 * ((j + 1 : Nat) : Int)) ∧ 0 < t' r)
        ⟨_, _, [], fun _ => 0, rfl, upd_same, fun b o e hb => by rw [upd_ne hb]; exact sp _ _ e, ⟨[], by rw [upd_ne npd, upd_same], rfl, (fun r hr => by cases hr), List.nodup_nil, fun r _ => rfl⟩, fun g => rfl, (fun r hr => by cases hr)⟩ (fun i σ G _ hP => ?_) (fun i x σ G G2 hi hP hy => ?_) (fun σ G hP => ?_)
      · obtain ⟨_, _, _, _, _, z, _⟩ := hP
        exact z
      · obtain ⟨rfl, k, v, hkv, rfl⟩ := hy
        obtain ⟨w5, w6, ks', t', rfl, hf, keep, hI', hpr, hks'⟩ := hP
        obtain ⟨r, hr', rfl⟩ := key_at a2 hkv
        have rk : r ∈ ks := List.mem_of_getElem? hr'
        obtain ⟨⟨r0, r1⟩, r2⟩ := hks r rk
        refine ⟨_, rfl, _, rfl, r, sz, rfl, r0, by omega, z0, by omega, fun l hl => ?_⟩
        have sl' := same_upd (o := .lst (upV (loJ r sz) (manyE r sz))) hl
        have npl : p ≠ l := fun e => by
          obtain ⟨_, z, _⟩ := hI'
          rw [e, hl] at z
          cases z
        have bnd : loJ r sz + 2 * ((manyE r sz : Nat) : Int) ≤ r + sz + 2 := by
          unfold loJ manyE
          split <;> split <;> omega
        have l0 := loJ_nn r sz
        refine ⟨l, rfl, ⟨_, SqL.of upd_same⟩, for_list (K := K) (a := l) (xs := upV (loJ r sz) (manyE r sz)) (fun m σ G3 => ∃ (v6 : Option V) (ks' : List Int) (t' : Int → Int), σ = [some (.ref a), some (.int n), some (.ref L), some (.int sz), some (.ref p), some (.int r), v6] ∧ G3 d = some (.frz o1 (.dK kv)) ∧ G3 l = some (.lst (upV (loJ r sz) (manyE r sz))) ∧ (∀ b o, H' b = some o → b ≠ d → G3 b = some o) ∧
            IntD G3 p ks' t' ∧ (∀ g, pairI ks' t' g = pairI (ks.take i) t (opT sz g) + t r * runS g (loJ r sz) m) ∧ ∀ r ∈ ks', (0 ≤ r ∧ r ≤ 120 + 12 * ((j + 1 : Nat) : Int)) ∧ 0 < t' r)
          ⟨_, ks', t', rfl, sl' _ _ hf, upd_same, fun b o e hb => sl' _ _ (keep b o e hb), hI'.same sl', fun g => ?_, hks'⟩ (fun m σ G3 _ hP => ?_) (fun m x σ G3 hx hP => ?_) (fun σ G3 hP => ?_)⟩
        · rw [hpr g]
          show _ = _ + t r * 0
          rw [Int.mul_zero, Int.add_zero]
        · obtain ⟨_, _, _, _, _, z, _⟩ := hP
          exact SqL.of z
        · obtain ⟨w6, ks', t', rfl, hf, hl3, keep, hI', hpr, hks'⟩ := hP
          obtain ⟨hm, rfl⟩ := up_at hx
          obtain ⟨o, dg, eo⟩ := got (r := loJ r sz + 2 * (m : Int)) hI'
          obtain ⟨kvp, p1, p2, p3, p4, p5⟩ := id hI'
          refine ⟨_, rfl, p, rfl, .inl ⟨_, .inl p1⟩, _, rfl, o, dg, ?_⟩
          rw [eo]
          have few : kvp.length < sizeLine := by
            have : ks'.length ≤ 1000 := nodup_len (lo := 0) 1000 p4 fun s hs => by
              have := hks' s hs
              omega
            rw [len_keys p2, sizeLine_eq]
            omega
          refine ⟨_, rfl, L, _, 0, .ref d, rfl, rfl, SqL.of (keep _ _ hL Ld), hat, _, rfl, d, .int (t r), rfl, .inl ⟨kv, Sum.inl r, .inr ⟨o1, hf⟩, rfl, (a3 r rk).symm⟩, t' (loJ r sz + 2 * (m : Int)), t r, rfl, rfl, _, rfl, _, rfl, p, _, rfl, DPut.k (k := Sum.inl (loJ r sz + 2 * (m : Int))) p1 few, ?_⟩
          refine ⟨_, addKey ks' (loJ r sz + 2 * (m : Int)), setI t' (loJ r sz + 2 * (m : Int)) (t' (loJ r sz + 2 * (m : Int)) + t r), rfl, by rw [upd_ne npd.symm]; exact hf, by rw [upd_ne npl.symm]; exact hl3, fun b o e hb => ?_, putI_ok (H := G3) (d := p) (r := loJ r sz + 2 * (m : Int)) p2 p3 p4 p5, fun g => ?_, fun s hs => ?_⟩
          · rw [upd_ne (ne_of_none e hp)]
            exact keep b o e hb
          · rw [pair_put p4 p5, hpr g, runS_succ, Int.mul_add, Int.add_assoc]
          · refine ⟨?_, pos_put (fun r hr => (hks' r hr).2) p5 r2 s hs⟩
            rcases mem_addKey.mp hs with h | h
            · exact (hks' s h).1
            · rw [h]
              omega
        · obtain ⟨w6, ks', t', rfl, hf, hl3, keep, hI', hpr, hks'⟩ := hP
          refine ⟨_, _, ks', t', rfl, hf, keep, hI', fun g => ?_, hks'⟩
          rw [hpr g, upV_length, pair_take hr']
          rfl
      · obtain ⟨w5, w6, ks', t', rfl, hf, keep, hI', hpr, hks'⟩ := hP
        refine ⟨hf, _, _, rfl, fun b o e => ?_, ks', t', hI'.upd npd, fun g => ?_, hks'⟩
        · by_cases hb : b = d
          · rw [hb, upd_same]
            rw [hb, a1] at e
            exact e
          · rw [upd_ne hb]
            exact keep b o e hb
        · rw [hpr g, lk, List.take_length, hpair, List.take_add_one, hj]
          show _ = rowT ((back rs).take j ++ [sz]) g n
          rw [rowT_snoc]
    obtain ⟨w5, w6, rfl, keep, hIP⟩ := hM
    refine ⟨_, rfl, by show 1 ≤ sizeLine; decide, fun q1 h1 => ?_⟩
    have t1 := same_upd (o := .lst [.ref p]) h1
    refine ⟨_, rfl, q1, L, _, _, rfl, rfl, upd_same, t1 _ _ (keep _ _ hL), ?_, fun q2 h2 => ?_⟩
    · rw [List.length_map, hds, sizeLine_eq]
      show 1 + _ ≤ _
      omega
    have t2 := t1.trans (same_upd (o := .lst ([.ref p] ++ ds.map V.ref)) h2)
    refine ⟨q2, _, _, _, _, p :: ds, rfl, upd_same, by rw [List.length_cons, hds], t2 _ _ (keep _ _ hsl'), fun b o e => t2 _ _ (keep _ _ (sm _ _ e)), fun i d' hi => ?_⟩
    match i, hi with
    | 0, hi =>
      cases hi
      rw [Nat.sub_zero]
      exact hIP.same t2
    | i + 1, hi =>
      have hi' : ds[i]? = some d' := hi
      rw [show j + 1 - (i + 1) = j - i by omega]
      exact IntQ.le (((hI i d' hi').same keep).same t2) (Int.le_refl _) (by omega)
end
end TC
namespace TC
open PySem PySem.Spec PyProof.Rows L2 TCA TCX
theorem walk_enumT {K : PySem.W.Frag} {a : Addr} {xs : List V} : Walk (Iet K a xs) xs.length (fun H => SqT K H a xs) (fun i H v H' => ∃ T x, v = .ref T ∧ H T = none ∧ H' = upd H T (.tup [.int (i : Nat), x]) ∧ xs[i]? = some x) :=
  ⟨fun i _ hi q => ⟨hi, q⟩, fun _ q => ⟨Nat.le_refl _, q⟩, fun _ _ _ _ _ _ y => y⟩
section
variable {P : Program} {w : World} {K : PySem.W.Frag} {mg : Str → Option Value} {base : Heap} {f : Addr} {fd : FuncData}
/-! ### _law_is_label -/
def spIsLabel (K : PySem.W.Frag) : Sp := fun vs H Q _ => ∃ (a : Addr) (r0 : Int) (rest : List Int) (v : V) (n : Int) (o : Option (List V)), vs = [.ref a, v, .int n] ∧ Row H a (r0 :: rest) ∧ LabV K H v o ∧
  ∀ (b : Bool) H', Same H H' → (b = true ↔ GoodL rest r0 n o) → Q (.bl b) H'
abbrev nIsLabel : List Str := ["_law_row_here", "_law_label", "_law_size", "_law_here", "_law_one", "_law_other"]
theorem scIsLabel : FnScope nIsLabel ["_law_row_here", "_law_label", "_law_size"] (defScope sIsLabel) := ⟨rfl, rfl, rfl, by decide +kernel, rfl, by decide +kernel, by decide +kernel⟩
theorem ok_isLabel {fJ : Addr} {fdJ : FuncData} (F : FnP K "_law_is_label" sIsLabel f fd) (GJ : FnOk P w K mg base CX0 1 fJ fdJ ["_law_one", "_law_other"] spEnds) (bJ : L2.Binds K fdJ ["_law_one", "_law_other"] []) (kJ : PySem.W.keepIn K (.ref fJ) = true) (gJ : mg "_law_joints" = some (.ref fJ))
    (gisinstance : mg "isinstance" = none) (gtuple : mg "tuple" = none) (glen : mg "len" = none) (gint : mg "int" = none) (gbool : mg "bool" = none) (gzip : mg "zip" = none) :
    FnOk P w K mg base CX0 2 f fd ["_law_row_here", "_law_label", "_law_size"] (spIsLabel K) := by
  refine F.ok scIsLabel (fun vs H Q E h => ?_) (fun cdv A outer s H vs Q E hr h => ?_)
  · obtain ⟨_, _, _, _, _, _, rfl, _⟩ := h
    rfl
  · obtain ⟨a, r0, rest, v, n, o, rfl, hR, hv, q⟩ := h
    refine ⟨_, PSs.nox (pss_cons (ps_if (PW.pt (pw_or (pt_not (pt_val (pe_callB call_isi (by rfl) gisinstance (by decide +kernel) (pa_cons (pv 1) (pa_cons (pe_bltn (v := .ty "tuple") (by rfl) gtuple (by decide +kernel) rfl) pa_nil))))) (pw_or1 (pt_cmpR op_ne (pe_callB call_len_seq (by rfl) glen PySem.boot_len (pa_cons (pv 1) pa_nil)) (pe_op op_sub (pe_callB call_len_seq (by rfl) glen PySem.boot_len (pa_cons (pv 0) pa_nil)) pe_int) (nomark _))))) (pss_one (ps_ret pe_bl)) pss_nil)
      (pss_cons (ps_set (i := 3) scIsLabel.nd rfl (.inl rfl) (pe_ix ix_list (pv 0) pe_int (fun _ _ => rfl)))
      (pss_cons (ps_for PassesOwn.never rfl (pi_zipM (by rfl) gzip (pa_cons (pe_slice sl_list (pv 0) (po_some pe_int) po_none) (pa_cons (pv 1) pa_nil))) (pg_tup rfl (pgs_cons (pg_name (i := 4) scIsLabel.nd rfl (.inl rfl)) (pgs_cons (pg_name (i := 5) scIsLabel.nd rfl (.inl rfl)) pgs_nil)))
        (pss_cons (ps_if (PW.pt (pw_or (pt_not (pt_val (pe_callB call_isi (by rfl) gisinstance (by decide +kernel) (pa_cons (pv 5) (pa_cons (pe_bltn (v := .ty "int") (by rfl) gint (by decide +kernel) rfl) pa_nil))))) (pw_or (pt_val (pe_callB call_isi (by rfl) gisinstance (by decide +kernel) (pa_cons (pv 5) (pa_cons (pe_bltn (v := .ty "bool") (by rfl) gbool (by decide +kernel) rfl) pa_nil)))) (pw_or1 (pt_cmpR op_notIn_seq (pv 5) (pe_call GJ hr (by rfl) gJ kJ bJ .nil pass0 (pa_cons (pv 3) (pa_cons (pv 4) pa_nil))) (by with_unfolding_all rfl)))))) (pss_one (ps_ret pe_bl)) pss_nil)
        (pss_one (ps_set (i := 3) scIsLabel.nd rfl (.inl rfl) (pv 5)))))
      (pss_one (ps_ret (pe_cmpR op_eq (pv 3) (pv 2) (nomark _))))))), ?_⟩
    have hsz : ∀ s ∈ rest, 0 ≤ s ∧ s ≤ 12 := fun s hs => hR.sz s (List.mem_cons_of_mem _ hs)
    have r01 := hR.sz r0 (by simp)
    have l10 : rest.length + 1 ≤ 10 := hR.le
    have no : ∀ H', Same H H' → ¬ GoodL rest r0 n o → Q (.bl false) H' := fun H' s h => q false H' s ⟨(fun z => by cases z), fun z => absurd z h⟩
    rcases hv with ⟨rfl, ty, h1, h2⟩ | ⟨b, vs, rfl, hb, rfl, hf⟩
    · exact ⟨_, rfl, _, _, _, _, false, rfl, .ty "tuple", h1, h2, false, rfl, iteT (iteT (no H (Same.refl _) fun ⟨l, e, _⟩ => by cases e))⟩
    refine ⟨_, rfl, _, _, _, _, true, rfl, .ty "tuple", .base (.tup hb), kit_ty (by decide +kernel), true, rfl, iteF ?_⟩
    refine ⟨_, rfl, b, _, rfl, .inr (SqT.of hb), _, rfl, a, _, rfl, .inl (SqL.of hR.at_), _, 1, rfl, rfl, rfl, _, rfl, ?_⟩
    by_cases hlen : vs.length = rest.length
    rotate_left
    · refine iteNT (ine ?_) (no H (Same.refl _) fun ⟨l, e, h2⟩ => hlen ?_)
      · rw [List.length_map, List.length_cons]
        omega
      · rw [Option.some.inj e, List.length_map]
        exact lab_len h2
    have elen : V.int (vs.length : Int) = V.int ((((r0 :: rest).map V.int).length : Int) - 1) := by
      rw [List.length_map, List.length_cons, hlen]
      congr 1
      omega
    refine iteNF elen ?_
    refine ⟨_, rfl, a, _, 0, .int r0, rfl, rfl, SqL.of hR.at_, atI_nat (j := 0) rfl, ?_⟩
    refine ⟨_, rfl, 1, rfl, a, _, rfl, SqL.of hR.at_, fun sl hsl => ?_⟩
    have ecut : cutV ((r0 :: rest).map V.int) (some 1) none = rest.map V.int := cut_drop (xs := (r0 :: rest).map V.int) (k := 1)
    rw [ecut]
    have s3 := same_upd (o := .lst (rest.map V.int)) hsl
    refine ⟨_, rfl, sl, b, _, vs, rfl, SqL.of upd_same, SqT.of (s3 _ _ hb), ?_⟩
    refine for_it (walk_zipM (K := K) (a := sl) (b := b) (xs := rest.map V.int) (ys := vs) (by rw [List.length_map, hlen])) (fun j σ H' => ∃ (x : Int) (v4 v5 : Option V), σ = [some (.ref a), some (.ref b), some (.int n), some (.int x), v4, v5] ∧ Same H H' ∧ H' sl = some (.lst (rest.map V.int)) ∧
        0 ≤ x ∧ x ≤ 12 + 12 * (j : Int) ∧ (∀ l : List Int, vs = l.map V.int → labB rest r0 l n → labB (rest.drop j) x (l.drop j) n) ∧
        ∀ l2 : List Int, vs.drop j = l2.map V.int → labB (rest.drop j) x l2 n → GoodL rest r0 n (some vs))
      ⟨r0, none, none, rfl, s3, upd_same, r01.1, by omega, fun l e h => h, fun l2 e h => ⟨l2, by rw [← e]; rfl, h⟩⟩ (fun j σ H' _ hP => ?_) (fun j v σ H' H'' hj hP hy => ?_) (fun σ H' hP => ?_)
    · obtain ⟨_, _, _, _, sm, z, _⟩ := hP
      exact ⟨SqL.of z, SqT.of (sm _ _ hb)⟩
    rotate_left
    · obtain ⟨x, v4, v5, rfl, sm, hsl', x0, x1, hA, hB⟩ := hP
      rw [List.length_map, List.drop_length] at hA hB
      have hd : vs.drop rest.length = ([] : List Int).map V.int := List.drop_of_length_le (by omega)
      refine ⟨_, rfl, _, rfl, rfl, q _ _ sm ⟨fun z => ?_, fun ⟨l, e, h2⟩ => ?_⟩⟩
      · have ex : x = n := V.int.inj (of_decide_eq_true z)
        exact hB [] hd ex
      · have h3 := hA l (Option.some.inj e) h2
        have h4 : l.drop rest.length = [] := List.drop_of_length_le (by rw [lab_len h2]; exact Nat.le_refl _)
        rw [h4] at h3
        have ex : x = n := h3
        exact decide_eq_true (by rw [ex])
    obtain ⟨T, v, y, rfl, hT, rfl, hv, hy⟩ := hy
    obtain ⟨x, v4, v5, rfl, sm, hsl', x0, x1, hA, hB⟩ := hP
    obtain ⟨sz, hj', rfl⟩ : ∃ sz : Int, rest[j]? = some sz ∧ v = .int sz := by
      rw [List.getElem?_map] at hv
      cases e : rest[j]? with
      | none =>
        rw [e] at hv
        cases hv
      | some z =>
        rw [e] at hv
        exact ⟨z, rfl, (Option.some.inj hv).symm⟩
    obtain ⟨z0, z1⟩ := hsz sz (List.mem_of_getElem? hj')
    have hjl : j < rest.length := (List.getElem?_eq_some_iff.mp hj').1
    rw [drop_at hj'] at hA hB
    have sT := same_upd (o := .tup [.int sz, y]) hT
    refine ⟨T, _, rfl, SqT.of upd_same, rfl, _, _, rfl, _, _, rfl, rfl, ?_⟩
    have hsl2 := sT _ _ hsl'
    have smT := sm.trans sT
    generalize upd H' T (.tup [.int sz, y]) = G at hsl2 smT ⊢
    have good_at : ∀ l : List Int, vs = l.map V.int → ∃ c, y = .int c ∧ l.drop j = c :: l.drop (j + 1) := fun l e => by
      rw [e, List.getElem?_map] at hy
      cases ez : l[j]? with
      | none =>
        rw [ez] at hy
        cases hy
      | some c =>
        rw [ez] at hy
        exact ⟨c, (Option.some.inj hy).symm, drop_at ez⟩
    rcases (hf y (List.mem_of_getElem? hy)).no (K := K) (H := G) with ⟨c, rfl⟩ | ⟨⟨t, bi, bb, ty, ki, kb, ee⟩, hn2⟩
    rotate_left
    · have nog : ¬ GoodL rest r0 n (some vs) := fun ⟨l, e, _⟩ => by
        obtain ⟨c, ec, _⟩ := good_at l (Option.some.inj e)
        exact hn2 c ec
      refine ⟨_, rfl, _, _, _, _, bi, rfl, .ty "int", ty, ki, bi, rfl, ?_⟩
      cases bi with
      | false => exact iteT (iteT (no _ smT nog))
      | true =>
        refine iteF ?_
        cases bb with
        | false => cases ee
        | true => exact ⟨_, rfl, _, _, _, _, true, rfl, .ty "bool", ty, kb, true, rfl, iteT (iteT (no _ smT nog))⟩
    have good_c : GoodL rest r0 n (some vs) → inJ x sz c := fun ⟨l, e, h2⟩ => by
      obtain ⟨c', ec, ed⟩ := good_at l (Option.some.inj e)
      cases ec
      have h3 := hA l (Option.some.inj e) h2
      rw [ed] at h3
      exact h3.1
    refine ⟨_, rfl, _, _, _, _, true, rfl, .ty "int", .base (.int c), kit_ty (by decide +kernel), true, rfl, iteF ?_⟩
    refine ⟨_, rfl, _, _, _, _, false, rfl, .ty "bool", .base (.int c), kit_ty (by decide +kernel), false, rfl, iteF ?_⟩
    refine ⟨_, rfl, _, rfl, _, rfl, x, sz, rfl, x0, by omega, z0, by omega, fun le hle => ?_⟩
    have s4 := same_upd (o := .lst (upV (loJ x sz) (manyE x sz))) hle
    refine ⟨le, _, rfl, .inl (SqL.of upd_same), rfl, flat_up _ _, _, rfl, ?_⟩
    show if (!inV (.int c) (upV (loJ x sz) (manyE x sz))) = true then _ else _
    rw [inV_up]
    by_cases cj : inJ x sz c
    rotate_left
    · exact iteNT cj (no _ (smT.trans s4) fun h => cj (good_c h))
    refine iteNF cj ?_
    have c0 := inJ_nn cj
    have c1 := inJ_le x0 z0 cj
    refine ⟨_, rfl, c, _, _, rfl, smT.trans s4, s4 _ _ hsl2, c0, by omega, fun l e h => ?_, fun l2 e h => ?_⟩
    · obtain ⟨c', ec, ed⟩ := good_at l e
      cases ec
      have h3 := hA l e h
      rw [ed] at h3
      exact h3.2
    · refine hB (c :: l2) ?_ ⟨cj, h⟩
      obtain ⟨hl', e'⟩ := List.getElem?_eq_some_iff.mp hy
      rw [List.drop_eq_getElem_cons hl', e', e]
      rfl
/-! ### _law_rank -/
def spRank : Sp := fun vs H Q _ => ∃ (a T W : Addr) (r0 : Int) (rest l : List Int) (n : Int), vs = [.ref a, .ref T, .ref W] ∧ Row H a (r0 :: rest) ∧ H T = some (.tup (l.map V.int)) ∧ labB rest r0 l n ∧ WaysP H W (r0 :: rest) n ∧
  ∀ H', Same H H' → Q (.int (rankL rest r0 l n)) H'
abbrev nRank : List Str := ["_law_row_here", "_law_label", "_law_ways_on", "_law_found", "_law_here", "_law_k", "_law_other", "_law_less"]
theorem scRank : FnScope nRank ["_law_row_here", "_law_label", "_law_ways_on"] (defScope sRank) := ⟨rfl, rfl, rfl, by decide +kernel, rfl, by decide +kernel, by decide +kernel⟩
theorem ok_rank {fJ : Addr} {fdJ : FuncData} (F : FnP K "_law_rank" sRank f fd) (GJ : FnOk P w K mg base CX0 1 fJ fdJ ["_law_one", "_law_other"] spEnds) (bJ : L2.Binds K fdJ ["_law_one", "_law_other"] []) (kJ : PySem.W.keepIn K (.ref fJ) = true) (gJ : mg "_law_joints" = some (.ref fJ))
    (genum : mg "enumerate" = none) (gsum : mg "sum" = none) :
    FnOk P w K mg base CX0 2 f fd ["_law_row_here", "_law_label", "_law_ways_on"] spRank := by
  refine F.ok scRank (fun vs H Q E h => ?_) (fun cdv A outer s H vs Q E hr h => ?_)
  · obtain ⟨_, _, _, _, _, _, _, rfl, _⟩ := h
    rfl
  · obtain ⟨a, T, W, r0, rest, l, n, rfl, hR, hTl, hlab, hW, q⟩ := h
    have hu := hu_of hr
    refine ⟨_, PSs.nox (pss_cons (ps_par (i := 3) (j := 4) (by rfl) scRank.nd rfl rfl (by decide) rfl rfl (pa_cons pe_int (pa_cons (pe_ix ix_list (pv 0) pe_int (fun _ _ => rfl)) pa_nil)) (by rfl))
      (pss_cons (ps_for PassesOwn.never rfl (pi_enumT (by rfl) genum (pa_cons (pv 1) pa_nil)) (pg_tup rfl (pgs_cons (pg_name (i := 5) scRank.nd rfl (.inr rfl)) (pgs_cons (pg_name (i := 6) scRank.nd rfl (.inr rfl)) pgs_nil)))
        (pss_cons (ps_set (i := 3) scRank.nd rfl (.inl rfl) (pe_op op_add (pv 3) (pe_callB (cr_sum rfl) (by rfl) gsum (by decide +kernel) (pa_cons (pe_lc (own := [("_law_less", 7)]) (g := gName 7) (tt := tTest (tOp (rI0 fun i j => .bl (decide (i < j))) (tVar 7) (tVar 6))) (te := tDGet2 (tOp (rIxL K) (tVar 2) (tOp (rI0 fun i j => .int (i + j)) (tVar 5) (tC (.int 1)))) (tVar 7) (tC (.int 0))) (by rfl) scRank.nd (pi_list (pe_call GJ hr (by rfl) gJ kJ bJ .nil pass0 (pa_cons (pv 4) (pa_cons (pe_ix ix_list (pv 0) (pe_op op_add (pv 5) pe_int) (fun _ _ => rfl)) pa_nil))))
          (blkOk_by (N := nRank) (sc := defScope sRank) (by decide +kernel)) (fun _ _ _ _ _ => pg_name (i := 7) scRank.nd rfl (.inl rfl)) (fun _ _ _ _ _ => pts_one (pt_cmpR op_lt (pv 7) (pv 6) (nomark _))) (fun _ _ _ _ _ => (pe_dget2 hu (pe_ix ix_list (pv 2) (pe_op op_add (pv 5) pe_int) (fun _ _ => rfl)) (pv 7) pe_int ⟨rfl, rfl, rfl, rfl⟩))) pa_nil))))
        (pss_one (ps_set (i := 4) scRank.nd rfl (.inl rfl) (pv 6)))))
      (pss_one (ps_ret (pv 3))))), ?_⟩
    have hsz : ∀ s ∈ rest, 0 ≤ s ∧ s ≤ 12 := fun s hs => hR.sz s (List.mem_cons_of_mem _ hs)
    have r01 := hR.sz r0 (by simp)
    have l10 : rest.length + 1 ≤ 10 := hR.le
    have hll := lab_len hlab
    refine ⟨_, rfl, a, _, 0, .int r0, rfl, rfl, SqL.of hR.at_, atI_nat (j := 0) rfl, _, _, rfl, ?_⟩
    refine ⟨_, rfl, T, _, rfl, SqT.of hTl, ?_⟩
    refine for_it (walk_enumT (K := K) (a := T) (xs := l.map V.int)) (fun j σ H' => ∃ (x acc : Int) (v5 v6 v7 : Option V), σ = [some (.ref a), some (.ref T), some (.ref W), some (.int acc), some (.int x), v5, v6, v7] ∧ Same H H' ∧
        0 ≤ x ∧ x ≤ 12 + 12 * (j : Int) ∧ labB (rest.drop j) x (l.drop j) n ∧ rankL rest r0 l n = acc + rankL (rest.drop j) x (l.drop j) n)
      ⟨r0, 0, none, none, none, rfl, Same.refl _, r01.1, by omega, hlab, by rw [Int.zero_add]; rfl⟩ (fun j σ H' _ hP => ?_) (fun j v σ H' H'' hj hP hy => ?_) (fun σ H' hP => ?_)
    · obtain ⟨_, _, _, _, _, _, sm, _⟩ := hP
      exact SqT.of (sm _ _ hTl)
    rotate_left
    · obtain ⟨x, acc, v5, v6, v7, rfl, sm, x0, x1, hl, er⟩ := hP
      have e0 : rankL rest r0 l n = acc := by
        rw [er, List.length_map, hll, List.drop_length]
        have : ∀ y z, rankL [] y z n = 0 := fun y z => by cases z <;> rfl
        rw [this, Int.add_zero]
      rw [← e0]
      exact ⟨_, rfl, q _ sm⟩
    obtain ⟨T2, v, rfl, hT2, rfl, hv⟩ := hy
    obtain ⟨x, acc, v5, v6, v7, rfl, sm, x0, x1, hl, er⟩ := hP
    obtain ⟨c, hc, rfl⟩ : ∃ c : Int, l[j]? = some c ∧ v = .int c := by
      rw [List.getElem?_map] at hv
      cases e : l[j]? with
      | none =>
        rw [e] at hv
        cases hv
      | some z =>
        rw [e] at hv
        exact ⟨z, rfl, (Option.some.inj hv).symm⟩
    have hjl : j < rest.length := by
      have := (List.getElem?_eq_some_iff.mp hc).1
      omega
    obtain ⟨sz, hj'⟩ : ∃ sz, rest[j]? = some sz := ⟨_, List.getElem?_eq_getElem hjl⟩
    obtain ⟨z0, z1⟩ := hsz sz (List.mem_of_getElem? hj')
    rw [drop_at hj', drop_at hc] at hl er
    obtain ⟨cj, hl2⟩ := hl
    have c0 := inJ_nn cj
    have c1 := inJ_le x0 z0 cj
    have sT := same_upd (o := .tup [.int (j : Nat), .int c]) hT2
    refine ⟨T2, _, rfl, SqT.of upd_same, rfl, _, _, rfl, _, _, rfl, rfl, ?_⟩
    have smT := sm.trans sT
    generalize upd H' T2 (.tup [.int (j : Nat), .int c]) = G at smT ⊢
    have hat : atI ((r0 :: rest).map V.int) ((j : Int) + 1) = some (.int sz) := by
      have z : atI ((r0 :: rest).map V.int) ((j + 1 : Nat) : Int) = some (.int sz) := atI_nat (by rw [List.map_cons, List.getElem?_cons_succ, List.getElem?_map, hj']; rfl)
      rw [show ((j + 1 : Nat) : Int) = (j : Int) + 1 by omega] at z
      exact z
    refine ⟨_, rfl, _, rfl, _, rfl, _, rfl, _, 1, rfl, rfl, a, _, _, .int sz, rfl, rfl, SqL.of (smT _ _ hR.at_), hat, x, sz, rfl, x0, by omega, z0, by omega, fun le hle => ?_⟩
    have s4 := same_upd (o := .lst (upV (loJ x sz) (manyE x sz))) hle
    obtain ⟨xsW, d, hxW, haW, hdW⟩ := (hW.same (smT.trans s4)).at (j + 1) (by show j + 1 < rest.length + 1; omega)
    have ed : (r0 :: rest).drop (j + 1 + 1) = rest.drop (j + 1) := rfl
    rw [ed] at hdW
    have eat : ((j + 1 : Nat) : Int) = (j : Int) + 1 := by omega
    rw [eat] at haW
    refine ⟨le, rfl, ⟨_, SqL.of upd_same⟩, fun D hD => ?_⟩
    refine lc_list (K := K) (a := le) (xs := upV (loJ x sz) (manyE x sz)) (fun i H2 => ∃ ns : List Int, H2 D = some (.lst (ns.map V.int)) ∧ ns.length ≤ i ∧ ns.sum = runS (fun y => if y < c then rowT (rest.drop (j + 1)) (one n) y else 0) (loJ x sz) i ∧ ∀ b o, upd G le (.lst (upV (loJ x sz) (manyE x sz))) b = some o → H2 b = some o)
      ⟨[], upd_same, Nat.zero_le _, rfl, same_upd hD⟩ (fun i H2 _ hP => ?_) (fun i v H2 hv hP => ?_) (fun H2 hP => ?_)
    · obtain ⟨_, _, _, _, z⟩ := hP
      exact SqL.of (z _ _ upd_same)
    · obtain ⟨ns, hDl, hnl, hns, keep⟩ := hP
      obtain ⟨hi, rfl⟩ := up_at hv
      have l0 := loJ_nn x sz
      refine ⟨rfl, _, rfl, _, rfl, _, _, rfl, rfl, _, rfl, iteB (fun y => ?_) fun y => ?_⟩
      · obtain ⟨o3, dg3, eo3, _⟩ := (hdW.same keep).get (u := loJ x sz + 2 * (i : Int)) (by omega)
        refine ⟨_, rfl, _, rfl, _, 1, rfl, rfl, W, _, _, _, rfl, rfl, SqL.of (keep _ _ hxW), haW, d, rfl, (hdW.same keep).isd, _, rfl, o3, dg3, ?_⟩
        rw [eo3]
        refine ⟨_, hDl, ?_, ns ++ [rowT (rest.drop (j + 1)) (one n) (loJ x sz + 2 * (i : Int))], ?_, ?_, ?_, fun b o e => ?_⟩
        · rw [List.length_map, sizeLine_eq]
          have : manyE x sz ≤ 13 := by
            unfold manyE
            split <;> omega
          omega
        · rw [upd_same, List.map_append]
          rfl
        · rw [List.length_append]
          exact Nat.succ_le_succ hnl
        · rw [runS_succ, List.sum_append, hns]
          show _ + (_ + 0) = _
          rw [Int.add_zero, if_pos (of_decide_eq_true y)]
        · rw [upd_ne (ne_of_none e hD)]
          exact keep b o e
      · refine ⟨ns, hDl, Nat.le_succ_of_le hnl, ?_, keep⟩
        rw [runS_succ, hns, if_neg (of_decide_eq_false y), Int.add_zero]
    · obtain ⟨ns, hDl, hnl, hns, keep⟩ := hP
      rw [upV_length] at hns
      refine ⟨D, ns, rfl, SqL.of hDl, _, _, rfl, rfl, ?_⟩
      refine ⟨_, rfl, c, _, _, _, _, rfl, (smT.trans s4).trans keep, c0, by omega, hl2, ?_⟩
      rw [er, hns]
      show acc + (lessS _ _ _ _ + _) = acc + runS _ _ _ + _
      unfold lessS
      omega
end
end TC
namespace TC
open PySem PySem.Spec PyProof.Rows L2 TCA TCX
theorem tst_tup2 {X : Cx} {x1 x2 : Str} {c1 c2 cls : Value} {p1 p2 tpos : Pos} {kk : Nat} {b : Bool} (n1 : Names X x1 c1) (n2 : Names X x2 c2) (he : PySem.W.exmAny X.K cls [c1, c2] = some b) :
    Tst X (.Tuple [.Name x1 p1, .Name x2 p2] kk tpos) cls b := by
  intro a oe pn σ H s Q E I e q
  subst e
  refine wpAny_Tuple ?_
  refine wpAny_items_cons (ld_names n1 I ?_)
  refine wpAny_items_cons (ld_names n2 I ?_)
  refine wpAny_items_nil ⟨by size_fits, ?_⟩
  have kp : ∀ q o, s.heap.get? q = some o → (s.heap.push { cls := .type "tuple", data := .seq [c1, c2].toArray }).get? q = some o := fun _ _ z => Heap.get?_push_of_some _ z
  exact (PySem.W.exm_tup2 (I.kIn.keeps kp) ((suite_ty I).keeps kp) (Heap.get?_push_size s.heap rfl) he).here (q _ kp)
/-- a wish may be made stronger -/
theorem pe_weak {X : Cx} {e : Expr} {t : TE} (he : PE X e t) : PE X e (fun σ H Q => ∃ Q' : VK, (∀ v H', Q' v H' → Q v H') ∧ t σ H Q') := by
  refine ⟨fun pins s σ H Q I h => ?_⟩
  obtain ⟨Q', m, h⟩ := h
  refine wpAny_mono (he.run pins s σ H Q' I h) (fun u s' z => ?_) fun _ _ z => z
  obtain ⟨v, H1, I1, r, q⟩ := z
  exact ⟨v, H1, I1, r, m v H1 q⟩
/-! ### _law_kind, handed a lambda -/
def TKind (K : PySem.W.Frag) : (XK → Hp → VK → Prop) → Hp → VK → Prop := fun tl H Q => ∀ H1, Same H H1 →
  tl (fun cls d H' => ∃ (D : Addr) (n : Nat), cls = .ref D ∧ d = none ∧ KindF K D n ∧ n < 22 ∧ PySem.W.exmAny K (.ref D) [.ref (He.ga K "TurnError"), .ref (He.ga K "NoPlace")] = some true ∧ ∀ H2, Same H' H2 → Q (.str (words.getD n "")) H2)
    H1 (fun v H' => Q .non H')
abbrev nKind : List Str := ["_law_call", "_law_caught", "_law_e"]
theorem scKind : FnScope nKind ["_law_call"] (defScope sKind) := ⟨rfl, rfl, rfl, by decide +kernel, rfl, by decide +kernel, by decide +kernel⟩
structure KTxt (K : PySem.W.Frag) (mg : Str → Option Value) : Prop where
  g1 : mg "TurnError" = some (.ref (He.ga K "TurnError"))
  g4 : mg "NoPlace" = some (.ref (He.ga K "NoPlace"))
theorem kind_gives {X : Cx} {g fW : Addr} {fdW : FuncData} {cdg : Value} {q : Str} (T : KTxt X.K X.mg) (GW : FnOk X.prog X.w X.K X.mg X.base CX0 1 fW fdW ["_law_e"] (spWord X.K)) (bW : L2.Binds X.K fdW ["_law_e"] []) (kW : PySem.W.keepIn X.K (.ref fW) = true) (gW : X.mg "_law_word" = some (.ref fW)) (hr : Room 2 X.A) :
    LamX.GivesTo X nKind "_law_kind" (defScope sKind) g cdg (defBody sKind) "_law_call" q (TKind X.K) := by
  intro f c' s H Q tl act hc h
  have hr' : Room 1 (cxOf C8.CX0 X.prog X.w X.K X.mg X.base nKind "_law_kind" (defScope sKind) g cdg X.A X.stack s H C8.E0).nox.A := hr.deeper _
  refine ⟨_, pss_cons (ps_set (i := 1) scKind.nd rfl (.inl rfl) pe_non)
    (pss_cons (ps_try_keep (tb := fun W D σ H => ∃ (Ech : XK) (Qn : VK), (∀ cls d σ' H', Ech cls d H' → W cls d σ' H') ∧ (∀ v H', Qn v H' → D.nx σ H') ∧ σ[0]? = some (some (.ref f)) ∧ H c' = some (LamX.CodeO c' q) ∧ tl Ech H Qn) rfl rfl rfl scKind.nd (fun W pn xe tk _ => ?_)
      (HdK.cons (i := 2) (cs := [.ref (He.ga X.K "TurnError"), .ref (He.ga X.K "NoPlace")]) (fun cls b z => ?_) rfl rfl (fun a cls d pn => pss_one (ps_set (i := 1) scKind.nd rfl (.inl rfl) (pv 2))) HdK.nil))
    (pss_one (ps_ret (pe_ifExp (pt_cmpR op_isN (pv 1) pe_non (nomark _)) pe_non (pe_call GW hr' (by rfl) gW kW bW .nil (E := E0) pass0 (pa_cons (pv 1) pa_nil)))))), ?_⟩
  · refine ⟨fun pins s' σ H' D I h' => ?_⟩
    obtain ⟨Ech, Qn, hW, hn, h1, h2, h3⟩ := h'
    exact (pss_one (ps_expr (pe_weak (act W pn xe Ech _ _ tk hW)))).run pins s' σ H' D I ⟨Qn, hn, h1, h2, h3⟩
  · exact tst_tup2 ⟨rfl, by decide, .inl T.g1⟩ ⟨rfl, by decide, .inl T.g4⟩ z
  · refine ⟨_, _, fun cls d σ' H' z => ?_, ?_, rfl, hc, h _ (Same.refl _)⟩
    · intro hl
      obtain ⟨D, n, rfl, rfl, kd, n18, hx, hq⟩ := z
      match σ', hl with
      | [x0, x1, x2], _ =>
        refine ⟨true, hx, fun _ a ha => ?_, fun z => Bool.noConfusion z⟩
        have s2 := same_upd (o := ExV (.ref D) none a) ha
        refine ⟨_, rfl, _, rfl, rfl, _, rfl, iteD0 (fun z => by cases z) ?_⟩
        refine ⟨_, rfl, a, D, n, rfl, upd_same, kd, n18, fun H2 s3 => ?_⟩
        exact hq H2 (s2.trans s3)
    · exact fun v H' hv => ⟨_, rfl, rfl, _, rfl, iteD1 rfl hv⟩
theorem no_non {K : PySem.W.Frag} {H : Hp} : NotInt K H .non := ⟨_, false, false, .base .non, kit_ty (by decide +kernel), kit_ty (by decide +kernel), rfl⟩
theorem no_bl {K : PySem.W.Frag} {H : Hp} (b : Bool) : NotInt K H (.bl b) := ⟨_, true, true, .base (.bl b), kit_ty (by decide +kernel), kit_ty (by decide +kernel), rfl⟩
theorem no_str {K : PySem.W.Frag} {H : Hp} (z : Str) : NotInt K H (.str z) := ⟨_, false, false, .base (.str z), kit_ty (by decide +kernel), kit_ty (by decide +kernel), rfl⟩
theorem no_tup {K : PySem.W.Frag} {H : Hp} {a : Addr} {xs : List V} (h : H a = some (.tup xs)) : NotInt K H (.ref a) := ⟨_, false, false, .base (.tup h), kit_ty (by decide +kernel), kit_ty (by decide +kernel), rfl⟩
theorem no_lst {K : PySem.W.Frag} {H : Hp} {a : Addr} {xs : List V} (h : H a = some (.lst xs)) : NotInt K H (.ref a) := ⟨_, false, false, .base (.lst h), kit_ty (by decide +kernel), kit_ty (by decide +kernel), rfl⟩
theorem no_dK {K : PySem.W.Frag} {H : Hp} {a : Addr} {xs : List (Key × V)} (h : H a = some (.dK xs)) : NotInt K H (.ref a) := ⟨_, false, false, .base (.dK h), kit_ty (by decide +kernel), kit_ty (by decide +kernel), rfl⟩
theorem sml_ints {K : PySem.W.Frag} {H : Hp} : ∀ rs : List Int, Paired (Sml K 12 H) (rs.map V.int) (rs.map fun s => decide (0 ≤ s) && decide (s ≤ 12))
  | [] => .nil
  | s :: rs => .cons (.inl ⟨s, rfl, rfl⟩) (sml_ints rs)
theorem paired_app {α β : Type} {R : α → β → Prop} {xs xs' : List α} {ys ys' : List β} (h : Paired R xs ys) (h' : Paired R xs' ys') : Paired R (xs ++ xs') (ys ++ ys') := by
  induction h with
  | nil => exact h'
  | cons r _ ih => exact .cons r ih
/-- of all that a thing is known by, if its place isn't the pen's -/
theorem Sml.but {K : PySem.W.Frag} {hi : Int} {H H' : Hp} {v : V} {b : Bool} {l : Addr} {xs ys : List V} (h : Sml K hi H v b) (hl : H l = some (.lst xs)) (hl' : H' l = some (.lst ys)) (s : SameBut l H H') : Sml K hi H' v b := by
  rcases h with h | ⟨e, t, bi, bb, ty, h⟩
  · exact .inl h
  · refine .inr ⟨e, ?_⟩
    by_cases z : v = .ref l
    · rw [z]
      exact no_lst hl'
    · refine ⟨t, bi, bb, ?_, h⟩
      have st : ∀ {a : Addr} {o : HO}, v = .ref a → H a = some o → H' a = some o := fun {a o} e1 e2 => s _ _ (fun y => z (by rw [e1, y])) e2
      cases ty with
      | base b =>
        cases b with
        | non => exact .base .non
        | bl y => exact .base (.bl y)
        | int i => exact .base (.int i)
        | str y => exact .base (.str y)
        | flt y => exact .base (.flt y)
        | lst e => exact .base (.lst (st rfl e))
        | frz e => exact .base (.frz (st rfl e))
        | tup e => exact .base (.tup (st rfl e))
        | dK e => exact .base (.dK (st rfl e))
        | dT e => exact .base (.dT (st rfl e))
        | ins e cl ha hn htk hm => exact .base (.ins (st rfl e) cl ha hn htk hm)
      | byt y => exact .byt y
      | set e => exact .set (st rfl e)
      | kList e c => exact .kList e c
      | kTuple e c => exact .kTuple e c
      | kDict e c => exact .kDict e c
      | fTuple e => exact .fTuple (st rfl e)
      | fDict e => exact .fDict (st rfl e)
theorem Sml.pen {K : PySem.W.Frag} {hi : Int} {H H' : Hp} {v : V} {b : Bool} {p c : Addr} {ms : List Int} {n n' : Int} (h : Sml K hi H v b) (p1 : PenAt H p c ms n) (p2 : PenAt H' p c ms n') (s : SameBut p H H') : Sml K hi H' v b := by
  obtain ⟨_, y1, _⟩ := p1
  obtain ⟨_, y2, _⟩ := p2
  exact h.but y1 y2 s
section
variable {P : Program} {w : World} {K : PySem.W.Frag} {mg : Str → Option Value} {base : Heap} {f : Addr} {fd : FuncData}
/-! ### _law_bad_row -/
def spBadRow (K : PySem.W.Frag) : Sp := fun vs H Q _ => ∃ (p c : Addr) (ms : List Int) (n : Int) (a : Addr) (rs : List Int), vs = [.ref p, .ref a] ∧ PenAt H p c ms n ∧ 0 ≤ n ∧ n ≤ 500000 ∧ Row H a rs ∧ a ≠ p ∧
  ∀ (v : V) (n' : Int) H', RowV K H' v false → n ≤ n' → n' ≤ n + 5 → PenAt H' p c ms n' → SameBut p H H' → Q v H'
abbrev nBadRow : List Str := ["_law_pen_here", "_law_row_here", "_law_at", "_law_odd"]
theorem scBadRow : FnScope nBadRow ["_law_pen_here", "_law_row_here"] (defScope sBadRow) := ⟨rfl, rfl, rfl, by decide +kernel, rfl, by decide +kernel, by decide +kernel⟩
theorem cases10 {d : Int} (h0 : 0 ≤ d) (h1 : d < 10) : d = 0 ∨ d = 1 ∨ d = 2 ∨ d = 3 ∨ d = 4 ∨ d = 5 ∨ d = 6 ∨ d = 7 ∨ d = 8 ∨ d = 9 := by omega
theorem cases8 {d : Int} (h0 : 0 ≤ d) (h1 : d < 8) : d = 0 ∨ d = 1 ∨ d = 2 ∨ d = 3 ∨ d = 4 ∨ d = 5 ∨ d = 6 ∨ d = 7 := by omega
theorem ok_badRow {fD : Addr} {fdD : FuncData} (F : FnP K "_law_bad_row" sBadRow f fd) (GD : FnOk P w K mg base CX0 1 fD fdD ["_law_pen_here", "_law_many"] spDraw) (bD : L2.Binds K fdD ["_law_pen_here", "_law_many"] []) (kD : PySem.W.keepIn K (.ref fD) = true) (gD : mg "_law_draw" = some (.ref fD)) (glen : mg "len" = none) (gtuple : mg "tuple" = none) :
    FnOk P w K mg base CX0 2 f fd ["_law_pen_here", "_law_row_here"] (spBadRow K) := by
  refine F.ok scBadRow (fun vs H Q E h => ?_) (fun cdv A outer s H vs Q E hr h => ?_)
  · obtain ⟨_, _, _, _, _, _, rfl, _⟩ := h
    rfl
  · obtain ⟨p, c, ms, n, a, rs, rfl, pen, n0, n1, hR, hap, q⟩ := h
    refine ⟨_, PSs.nox (C8.pss_cut (ps_par (i := 2) (j := 3) (by rfl) scBadRow.nd rfl rfl (by decide) rfl rfl (pa_cons (pe_call GD hr (by rfl) gD kD bD .nil pass0 (pa_cons (pv 0) (pa_cons (pe_op op_add (pe_callB call_len_seq (by rfl) glen PySem.boot_len (pa_cons (pv 1) pa_nil)) pe_int) pa_nil))) (pa_cons (pe_ix ix_list (pe_lst (pa_cons pe_int (pa_cons (pe_un un_neg pe_int) (pa_cons pe_bl (pa_cons pe_non (pa_cons pe_str (pa_cons (pe_tup (pa_cons pe_int pa_nil)) (pa_cons (pe_lst (pa_cons pe_int pa_nil)) (pa_cons pe_bl (pa_cons pe_int (pa_cons pe_dnewK pa_nil))))))))))) (pe_call GD hr (by rfl) gD kD bD .nil pass0 (pa_cons (pv 0) (pa_cons pe_int pa_nil))) (fun _ _ => rfl)) pa_nil)) (by rfl))
      (C8.pss_cut (ps_if (pt_cmpR op_eq (pe_call GD hr (by rfl) gD kD bD .nil pass0 (pa_cons (pv 0) (pa_cons pe_int pa_nil))) pe_int (nomark _)) (pss_one (ps_ret (pe_ix ix_list (pe_lst (pa_cons (pe_callTy call_tuple_of (by rfl) gtuple (by decide +kernel) (pa_cons (pv 1) pa_nil)) (pa_cons (pe_lst pa_nil) (pa_cons pe_non (pa_cons pe_int (pa_cons pe_dnewK (pa_cons pe_str (pa_cons (pe_op op_rep (pe_lst (pa_cons pe_int pa_nil)) pe_int) (pa_cons (pe_op op_rep (pe_lst (pa_cons pe_int pa_nil)) pe_int) pa_nil))))))))) (pe_call GD hr (by rfl) gD kD bD .nil pass0 (pa_cons (pv 0) (pa_cons pe_int pa_nil))) (fun _ _ => rfl)))) pss_nil)
      (pss_one (ps_ret (pe_op op_cat (pe_op op_cat (pe_slice sl_list (pv 1) po_none (po_some (pv 2))) (pe_lst (pa_cons (pv 3) pa_nil))) (pe_slice sl_list (pv 1) (po_some (pe_op op_add (pv 2) (pe_call GD hr (by rfl) gD kD bD .nil pass0 (pa_cons (pv 0) (pa_cons pe_int pa_nil))))) po_none)))))), ?_⟩
    have l10 := hR.le
    have hlen : (rs.map V.int).length = rs.length := List.length_map ..
    refine ⟨fun σ H' => ∃ (k : Nat) (v : V) (n' : Int), σ = [some (.ref p), some (.ref a), some (.int k), some v] ∧ k ≤ rs.length ∧ Sml K 12 H' v false ∧ n ≤ n' ∧ n' ≤ n + 2 ∧ PenAt H' p c ms n' ∧ SameBut p H H', ?_, fun σ H2 hM => ?_⟩
    · have big : ((rs.map V.int).length : Int) + 1 < 2 ^ 1000 := Int.lt_of_lt_of_le (show ((rs.map V.int).length : Int) + 1 < 1000 by omega) (by decide +kernel)
      refine ⟨_, rfl, _, rfl, a, _, rfl, .inl (SqL.of hR.at_), _, 1, rfl, rfl, p, c, ms, n, ((rs.map V.int).length : Int) + 1, rfl, pen, n0, by omega, by omega, big, fun k' n2 H2 k0 k1 e0 e1 p2 s2 => ?_⟩
      refine ⟨1, rfl, by show 1 ≤ sizeLine; decide, fun t1 h1 => ?_⟩
      have a1 := same_upd (o := .tup [.int 1]) h1
      refine ⟨by show 1 ≤ sizeLine; decide, fun t2 h2 => ?_⟩
      have a2 := same_upd (o := .lst [.int 2]) h2
      intro t3 h3
      have a3 := same_upd (o := .dK []) h3
      refine ⟨by show 10 ≤ sizeLine; decide, fun t4 h4 => ?_⟩
      have a4 := same_upd (o := .lst [.int 13, .int (-1), .bl true, .non, .str "1", .ref t1, .ref t2, .bl false, .int 40, .ref t3]) h4
      have a34 := a3.trans a4
      have a24 := a2.trans a34
      have a14 := a1.trans a24
      refine ⟨_, rfl, p, c, ms, n2, 10, rfl, p2.same a14, by omega, by omega, by decide, by decide, fun d n3 H3 d0 d1 e2 e3 p3 s3 => ?_⟩
      have u1 := s3 t1 _ (PenAt.ne p2 h1) (a24 _ _ upd_same)
      have u2 := s3 t2 _ (PenAt.ne (p2.same a1) h2) (a34 _ _ upd_same)
      have u3 := s3 t3 _ (PenAt.ne (p2.same (a1.trans a2)) h3) (a4 _ _ upd_same)
      have u4 := s3 t4 _ (PenAt.ne (p2.same ((a1.trans a2).trans a3)) h4) upd_same
      have dn : ∀ v, NotInt K H3 v → Sml K 12 H3 v false := fun v z => .inr ⟨rfl, z⟩
      obtain ⟨k, rfl⟩ : ∃ k : Nat, k' = k := ⟨k'.toNat, by omega⟩
      have fin : ∀ v : V, Sml K 12 H3 v false → ∃ (k2 : Nat) (v' : V) (n' : Int), ([some (.ref p), some (.ref a), some (.int k), some v] : L2.St) = [some (.ref p), some (.ref a), some (.int k2), some v'] ∧ k2 ≤ rs.length ∧ Sml K 12 H3 v' false ∧ n ≤ n' ∧ n' ≤ n + 2 ∧ PenAt H3 p c ms n' ∧ SameBut p H H3 := fun v hv =>
        ⟨k, v, n3, rfl, by omega, hv, by omega, by omega, p3, SameBut.trans s2 (SameBut.trans (Same.but a14) s3)⟩
      rcases cases10 d0 d1 with rfl | rfl | rfl | rfl | rfl | rfl | rfl | rfl | rfl | rfl
      · exact ⟨t4, _, 0, _, rfl, rfl, SqL.of u4, atI_nat (j := 0) rfl, _, _, rfl, fin _ (.inl ⟨13, rfl, rfl⟩)⟩
      · exact ⟨t4, _, 1, _, rfl, rfl, SqL.of u4, atI_nat (j := 1) rfl, _, _, rfl, fin _ (.inl ⟨-1, rfl, rfl⟩)⟩
      · exact ⟨t4, _, 2, _, rfl, rfl, SqL.of u4, atI_nat (j := 2) rfl, _, _, rfl, fin _ (dn _ (no_bl _))⟩
      · exact ⟨t4, _, 3, _, rfl, rfl, SqL.of u4, atI_nat (j := 3) rfl, _, _, rfl, fin _ (dn _ no_non)⟩
      · exact ⟨t4, _, 4, _, rfl, rfl, SqL.of u4, atI_nat (j := 4) rfl, _, _, rfl, fin _ (dn _ (no_str _))⟩
      · exact ⟨t4, _, 5, _, rfl, rfl, SqL.of u4, atI_nat (j := 5) rfl, _, _, rfl, fin _ (dn _ (no_tup u1))⟩
      · exact ⟨t4, _, 6, _, rfl, rfl, SqL.of u4, atI_nat (j := 6) rfl, _, _, rfl, fin _ (dn _ (no_lst u2))⟩
      · exact ⟨t4, _, 7, _, rfl, rfl, SqL.of u4, atI_nat (j := 7) rfl, _, _, rfl, fin _ (dn _ (no_bl _))⟩
      · exact ⟨t4, _, 8, _, rfl, rfl, SqL.of u4, atI_nat (j := 8) rfl, _, _, rfl, fin _ (.inl ⟨40, rfl, rfl⟩)⟩
      · exact ⟨t4, _, 9, _, rfl, rfl, SqL.of u4, atI_nat (j := 9) rfl, _, _, rfl, fin _ (dn _ (no_dK u3))⟩
    obtain ⟨k, v, n2, rfl, hk, hv, e0, e1, p2, s2⟩ := hM
    have ha2 := s2 _ _ hap hR.at_
    refine ⟨fun σ H' => ∃ n' : Int, σ = [some (.ref p), some (.ref a), some (.int k), some v] ∧ Sml K 12 H' v false ∧ n ≤ n' ∧ n' ≤ n + 3 ∧ PenAt H' p c ms n' ∧ SameBut p H H', ?_, fun σ H3 hM => ?_⟩
    · refine ⟨_, rfl, p, c, ms, n2, 4, rfl, p2, by omega, by omega, by decide, by decide, fun d n3 H3 _ _ e2 e3 p3 s3 => ?_⟩
      have ha3 := s3 _ _ hap ha2
      have sH3 := SameBut.trans s2 s3
      refine ⟨rfl, _, rfl, ite2 (fun _ => ?_) fun _ => ?_⟩
      · refine ⟨_, rfl, a, _, rfl, .inl ⟨SqL.of ha3, fun t1 h1 => ?_⟩⟩
        have a1 := same_upd (o := .tup (rs.map V.int)) h1
        refine ⟨by show 0 ≤ sizeLine; decide, fun t2 h2 => ?_⟩
        have a2 := same_upd (o := .lst []) h2
        intro t3 h3
        have a3 := same_upd (o := .dK []) h3
        refine ⟨by show 1 ≤ sizeLine; decide, fun t4 h4 => ?_⟩
        have a4 := same_upd (o := .lst [.int 0]) h4
        refine ⟨t4, 11, _, rfl, rfl, upd_same, by decide, by decide, by show 1 * 11 ≤ sizeLine; decide, fun t5 h5 => ?_⟩
        have a5 := same_upd (o := .lst ((List.replicate 11 (0 : Int)).map V.int)) h5
        refine ⟨by show 1 ≤ sizeLine; decide, fun t6 h6 => ?_⟩
        have a6 := same_upd (o := .lst [.int 12]) h6
        refine ⟨t6, 11, _, rfl, rfl, upd_same, by decide, by decide, by show 1 * 11 ≤ sizeLine; decide, fun t7 h7 => ?_⟩
        have a7 := same_upd (o := .lst ((List.replicate 11 (12 : Int)).map V.int)) h7
        refine ⟨by show 8 ≤ sizeLine; decide, fun t8 h8 => ?_⟩
        have a8 := same_upd (o := .lst [.ref t1, .ref t2, .non, .int 3, .ref t3, .str "row", .ref t5, .ref t7]) h8
        have b78 := a7.trans a8
        have b68 := a6.trans b78
        have b58 := a5.trans b68
        have b48 := a4.trans b58
        have b38 := a3.trans b48
        have b28 := a2.trans b38
        have b18 := a1.trans b28
        refine ⟨_, rfl, p, c, ms, n3, 8, rfl, p3.same b18, by omega, by omega, by decide, by decide, fun d n4 H4 d0 d1 e4 e5 p4 s4 => ?_⟩
        have c1 := p3.same a1
        have c2 := c1.same a2
        have c3 := c2.same a3
        have c4 := c3.same a4
        have c5 := c4.same a5
        have c6 := c5.same a6
        have c7 := c6.same a7
        have u1 := s4 t1 _ (PenAt.ne p3 h1) (b28 _ _ upd_same)
        have u2 := s4 t2 _ (PenAt.ne c1 h2) (b38 _ _ upd_same)
        have u3 := s4 t3 _ (PenAt.ne c2 h3) (b48 _ _ upd_same)
        have u5 := s4 t5 _ (PenAt.ne c4 h5) (b68 _ _ upd_same)
        have u7 := s4 t7 _ (PenAt.ne c6 h7) (a8 _ _ upd_same)
        have u8 := s4 t8 _ (PenAt.ne c7 h8) upd_same
        have fin : ∀ v : V, RowV K H4 v false → Q v H4 := fun v hv => q v n4 H4 hv (by omega) (by omega) p4 (SameBut.trans sH3 (SameBut.trans (Same.but b18) s4))
        rcases cases8 d0 d1 with rfl | rfl | rfl | rfl | rfl | rfl | rfl | rfl
        · exact ⟨t8, _, 0, _, rfl, rfl, SqL.of u8, atI_nat (j := 0) rfl, fin _ (.inl ⟨rfl, _, .base (.tup u1), kit_ty (by decide +kernel)⟩)⟩
        · exact ⟨t8, _, 1, _, rfl, rfl, SqL.of u8, atI_nat (j := 1) rfl, fin _ (.inr ⟨t2, [], [], rfl, u2, .nil, rfl⟩)⟩
        · exact ⟨t8, _, 2, _, rfl, rfl, SqL.of u8, atI_nat (j := 2) rfl, fin _ (.inl ⟨rfl, _, .base .non, kit_ty (by decide +kernel)⟩)⟩
        · exact ⟨t8, _, 3, _, rfl, rfl, SqL.of u8, atI_nat (j := 3) rfl, fin _ (.inl ⟨rfl, _, .base (.int _), kit_ty (by decide +kernel)⟩)⟩
        · exact ⟨t8, _, 4, _, rfl, rfl, SqL.of u8, atI_nat (j := 4) rfl, fin _ (.inl ⟨rfl, _, .base (.dK u3), kit_ty (by decide +kernel)⟩)⟩
        · exact ⟨t8, _, 5, _, rfl, rfl, SqL.of u8, atI_nat (j := 5) rfl, fin _ (.inl ⟨rfl, _, .base (.str _), kit_ty (by decide +kernel)⟩)⟩
        · exact ⟨t8, _, 6, _, rfl, rfl, SqL.of u8, atI_nat (j := 6) rfl, fin _ (.inr ⟨t5, (List.replicate 11 (0 : Int)).map V.int, _, rfl, u5, sml_ints _, rfl⟩)⟩
        · exact ⟨t8, _, 7, _, rfl, rfl, SqL.of u8, atI_nat (j := 7) rfl, fin _ (.inr ⟨t7, (List.replicate 11 (12 : Int)).map V.int, _, rfl, u7, sml_ints _, rfl⟩)⟩
      · exact ⟨n3, rfl, hv.pen p2 p3 s3, by omega, by omega, p3, sH3⟩
    obtain ⟨n3, rfl, hv, e2, e3, p3, s3⟩ := hM
    have ha3 := s3 _ _ hap hR.at_
    refine ⟨_, rfl, _, rfl, k, rfl, a, _, rfl, SqL.of ha3, fun q1 h1 => ?_⟩
    have a1 := same_upd (o := .lst (cutV (rs.map V.int) none (some (k : Int)))) h1
    refine ⟨_, rfl, by show 1 ≤ sizeLine; decide, fun q2 h2 => ?_⟩
    have a2 := same_upd (o := .lst [v]) h2
    have lc1 := cutV_length (rs.map V.int) none (some (k : Int))
    refine ⟨q1, q2, _, _, rfl, rfl, a2 _ _ upd_same, upd_same, ?_, fun q3 h3 => ?_⟩
    · rw [sizeLine_eq]
      show _ + 1 ≤ _
      omega
    have a3 := same_upd (o := .lst (cutV (rs.map V.int) none (some (k : Int)) ++ [v])) h3
    have a13 := (a1.trans a2).trans a3
    refine ⟨_, rfl, _, rfl, _, rfl, p, c, ms, n3, 2, rfl, p3.same a13, by omega, by omega, by decide, by decide, fun d n4 H4 d0 d1 e4 e5 p4 s4 => ?_⟩
    obtain ⟨d', rfl⟩ : ∃ d' : Nat, d = d' := ⟨d.toNat, by omega⟩
    have q3p : q3 ≠ p := PenAt.ne (p3.same (a1.trans a2)) h3
    refine ⟨k, d', rfl, rfl, _, rfl, a, _, rfl, SqL.of (s4 _ _ hap (a13 _ _ ha3)), fun q4 h4 => ?_⟩
    have a4 := same_upd (o := .lst (cutV (rs.map V.int) (some ((k : Int) + (d' : Int))) none)) h4
    have lc2 := cutV_length (rs.map V.int) (some ((k : Int) + (d' : Int))) none
    refine ⟨q3, q4, _, _, rfl, rfl, a4 _ _ (s4 _ _ q3p upd_same), upd_same, ?_, fun q5 h5 => ?_⟩
    · rw [sizeLine_eq, List.length_append]
      show _ + 1 + _ ≤ _
      omega
    have a5 := same_upd (o := .lst (cutV (rs.map V.int) none (some (k : Int)) ++ [v] ++ cutV (rs.map V.int) (some ((k : Int) + (d' : Int))) none)) h5
    have a45 := a4.trans a5
    refine q _ n4 _ (.inr ⟨q5, _, ((rs.take k).map fun s => decide (0 ≤ s) && decide (s ≤ 12)) ++ [false] ++ ((rs.drop (k + d')).map fun s => decide (0 ≤ s) && decide (s ≤ 12)), rfl, upd_same, ?_, ?_⟩) (by omega) (by omega) (p4.same a45) (SameBut.trans s3 (SameBut.trans (Same.but a13) (SameBut.trans s4 (Same.but a45))))
    · have key : ∀ G : Hp, Sml K 12 G v false → Paired (Sml K 12 G) (cutV (rs.map V.int) none (some (k : Int)) ++ [v] ++ cutV (rs.map V.int) (some ((k : Int) + (d' : Int))) none) (((rs.take k).map fun s => decide (0 ≤ s) && decide (s ≤ 12)) ++ [false] ++ ((rs.drop (k + d')).map fun s => decide (0 ≤ s) && decide (s ≤ 12))) := fun G hG => by
        rw [cut_take, show (k : Int) + (d' : Int) = ((k + d' : Nat) : Int) by omega, cut_drop, ← List.map_take, ← List.map_drop]
        exact paired_app (paired_app (sml_ints _) (.cons hG .nil)) (sml_ints _)
      exact key _ (((hv.same a13).pen (p3.same a13) p4 s4).same a45)
    · rw [List.all_append, List.all_append]
      simp
end
end TC
namespace TC
open PySem PySem.Spec PyProof.Rows L2 TCA TCX
theorem PenAt.extN {H H' : Hp} {p c : Addr} {ms : List Int} {n : Int} (h : PenAt H p c ms n) (s : LamX.ExtN H H') : PenAt H' p c ms n := by
  obtain ⟨l, h1, h2, h3⟩ := h
  exact ⟨l, s _ _ h1 (fun _ z => by cases z), s _ _ h2 (fun _ z => by cases z), h3⟩
theorem PenAt.nt {H : Hp} {p c q : Addr} {ms : List Int} {n : Int} {ps : Array Value} (h : PenAt H p c ms n) (hq : H q = some (.tbl ps)) : q ≠ p := by
  obtain ⟨l, h1, h2, h3⟩ := h
  exact fun e => by rw [e, h1] at hq; cases hq
theorem tabs_but {T : List (Addr × Str)} {H H' : Hp} {p c : Addr} {ms : List Int} {n : Int} (t : LamX.Tabs T H) (hp : PenAt H p c ms n) (s : SameBut p H H') : LamX.Tabs T H' := fun q hq => by
  obtain ⟨ps, h1, h2, h3⟩ := t q hq
  refine ⟨ps, s _ _ (PenAt.nt hp h1) h1, h2, fun pos cv hc => ?_⟩
  obtain ⟨c0, e1, e2⟩ := h3 pos cv hc
  refine ⟨c0, e1, s _ _ (fun z => ?_) e2⟩
  obtain ⟨l, g1, _, _⟩ := hp
  rw [z, g1] at e2
  unfold LamX.CodeO at e2
  cases e2
theorem ty_ext {K : PySem.W.Frag} {H H' : Hp} {v : V} {t : Value} (h : TyX K H v t) (s : LamX.ExtN H H') : TyX K H' v t := by
  cases h with
  | base b =>
    cases b with
    | non => exact .base .non
    | bl y => exact .base (.bl y)
    | int i => exact .base (.int i)
    | str y => exact .base (.str y)
    | flt y => exact .base (.flt y)
    | lst e => exact .base (.lst (s _ _ e fun _ z => by cases z))
    | frz e => exact .base (.frz (s _ _ e fun _ z => by cases z))
    | tup e => exact .base (.tup (s _ _ e fun _ z => by cases z))
    | dK e => exact .base (.dK (s _ _ e fun _ z => by cases z))
    | dT e => exact .base (.dT (s _ _ e fun _ z => by cases z))
    | ins e cl ha hn htk hm => exact .base (.ins (s _ _ e fun _ z => by cases z) cl ha hn htk hm)
  | byt y => exact .byt y
  | set e => exact .set (s _ _ e fun _ z => by cases z)
  | kList e c => exact .kList e c
  | kTuple e c => exact .kTuple e c
  | kDict e c => exact .kDict e c
  | fTuple e => exact .fTuple (s _ _ e fun _ z => by cases z)
  | fDict e => exact .fDict (s _ _ e fun _ z => by cases z)
theorem Sml.extN {K : PySem.W.Frag} {hi : Int} {H H' : Hp} {v : V} {b : Bool} (h : Sml K hi H v b) (s : LamX.ExtN H H') : Sml K hi H' v b := by
  rcases h with h | ⟨e, t, bi, bb, ty, h⟩
  · exact .inl h
  · exact .inr ⟨e, t, bi, bb, ty_ext ty s, h⟩
theorem paired_map {α β : Type} {R R' : α → β → Prop} (f : ∀ a b, R a b → R' a b) {xs : List α} {ys : List β} (h : Paired R xs ys) : Paired R' xs ys := by
  induction h with
  | nil => exact .nil
  | cons r _ ih => exact .cons (f _ _ r) ih
theorem RowV.extN {K : PySem.W.Frag} {H H' : Hp} {v : V} {b : Bool} (h : RowV K H v b) (s : LamX.ExtN H H') : RowV K H' v b := by
  rcases h with ⟨e, t, h1, h2⟩ | ⟨a, xs, bs, e1, h1, h2, e2⟩
  · exact .inl ⟨e, t, ty_ext h1 s, h2⟩
  · exact .inr ⟨a, xs, bs, e1, s _ _ h1 (fun _ z => by cases z), paired_map (fun _ _ r => Sml.extN r s) h2, e2⟩
theorem Row.extN {H H' : Hp} {a : Addr} {rs : List Int} (h : Row H a rs) (s : LamX.ExtN H H') : Row H' a rs := ⟨s _ _ h.at_ (fun _ z => by cases z), h.ne, h.le, h.sz⟩
/-- what is no row stays none where the pen goes on -/
theorem RowV.pen {K : PySem.W.Frag} {H H' : Hp} {v : V} {p c : Addr} {ms : List Int} {n n' : Int} (h : RowV K H v false) (p1 : PenAt H p c ms n) (p2 : PenAt H' p c ms n') (s : SameBut p H H') : RowV K H' v false := by
  by_cases z : v = .ref p
  · obtain ⟨l, y1, y2, _⟩ := p2
    rw [z]
    refine .inr ⟨p, _, [false, decide (0 ≤ n') && decide (n' ≤ 12), decide (0 ≤ l) && decide (l ≤ 12)], rfl, y1, .cons (.inr ⟨rfl, no_lst y2⟩) (.cons (.inl ⟨_, rfl, rfl⟩) (.cons (.inl ⟨_, rfl, rfl⟩) .nil)), ?_⟩
    simp
  · rcases h with ⟨e, t, h1, h2⟩ | ⟨a, xs, bs, e1, h1, h2, e2⟩
    · refine .inl ⟨e, t, ?_, h2⟩
      have st : ∀ {a : Addr} {o : HO}, v = .ref a → H a = some o → H' a = some o := fun {a o} e1 e2 => s _ _ (fun y => z (by rw [e1, y])) e2
      cases h1 with
      | base b =>
        cases b with
        | non => exact .base .non
        | bl y => exact .base (.bl y)
        | int i => exact .base (.int i)
        | str y => exact .base (.str y)
        | flt y => exact .base (.flt y)
        | lst e => exact .base (.lst (st rfl e))
        | frz e => exact .base (.frz (st rfl e))
        | tup e => exact .base (.tup (st rfl e))
        | dK e => exact .base (.dK (st rfl e))
        | dT e => exact .base (.dT (st rfl e))
        | ins e cl ha hn htk hm => exact .base (.ins (st rfl e) cl ha hn htk hm)
      | byt y => exact .byt y
      | set e => exact .set (st rfl e)
      | kList e c => exact .kList e c
      | kTuple e c => exact .kTuple e c
      | kDict e c => exact .kDict e c
      | fTuple e => exact .fTuple (st rfl e)
      | fDict e => exact .fDict (st rfl e)
    · exact .inr ⟨a, xs, bs, e1, s _ _ (fun y => z (by rw [e1, y])) h1, paired_map (fun _ _ r => r.pen p1 p2 s) h2, e2⟩
/-! ### lists of whole numbers as data -/
theorem ints_lay : ∀ L : List Int, PyData.canLayAll0 (dInts L) = true ∧ PyData.depthAll (dInts L) ≤ 0
  | [] => ⟨rfl, Nat.le_refl _⟩
  | x :: L => by
    obtain ⟨h1, h2⟩ := ints_lay L
    refine ⟨?_, ?_⟩
    · show (PyData.canLay0 (.int x) && PyData.canLayAll0 (dInts L)) = true
      rw [h1]
      rfl
    · show max (PyData.depth (.int x)) (PyData.depthAll (dInts L)) ≤ 0
      exact Nat.max_le.mpr ⟨Nat.le_refl 0, h2⟩
theorem ints_eqv : ∀ L M : List Int, PyData.eqvAll (dInts L) (dInts M) = decide (L = M)
  | [], [] => rfl
  | [], _ :: _ => rfl
  | _ :: _, [] => rfl
  | x :: L, y :: M => by
    show (PyData.eqv (.int x) (.int y) && PyData.eqvAll (dInts L) (dInts M)) = _
    rw [ints_eqv L M]
    simp only [PyData.eqv]
    by_cases h1 : x = y <;> by_cases h2 : L = M <;> simp [h1, h2]
theorem ints_same (L : List Int) : PyData.eqv (.list (dInts L)) (.list (dInts L)) = true := by
  show PyData.eqvAll (dInts L) (dInts L) = true
  rw [ints_eqv]
  exact decide_eq_true rfl
theorem ints_shaped (L : List Int) : SeqAt.shaped (.list (dInts L)) = true := by
  obtain ⟨a1, a2⟩ := ints_lay L
  show (PyData.canLayAll0 (dInts L) && decide (PyData.depthAll (dInts L) + 1 ≤ 64)) = true
  rw [a1, decide_eq_true (by omega)]
  rfl
theorem cut_map (zs : List Int) (lo hi : Option Int) : ∃ ys : List Int, cutV (zs.map V.int) lo hi = ys.map V.int ∧ (∀ y ∈ ys, y ∈ zs) ∧ ys.length ≤ zs.length := by
  refine ⟨(zs.drop (HT.sIx (zs.map V.int).length 0 lo)).take (HT.sIx (zs.map V.int).length (zs.map V.int).length hi - HT.sIx (zs.map V.int).length 0 lo), ?_, fun y hy => List.mem_of_mem_drop (List.mem_of_mem_take hy), ?_⟩
  · rw [List.map_take, List.map_drop]
    rfl
  · rw [List.length_take, List.length_drop]
    omega
theorem sum_nn : ∀ {rs : List Int}, (∀ s ∈ rs, 0 ≤ s ∧ s ≤ 12) → 0 ≤ rs.sum
  | [], _ => Int.le_refl _
  | s :: rs, h => by
    have h1 := (h s (by simp)).1
    have h2 := sum_nn fun r hr => h r (List.mem_cons_of_mem _ hr)
    rw [List.sum_cons]
    omega
section
variable {K : PySem.W.Frag} {x : Str} {params : Arguments} {body : List Stmt} {scope : Scope} {kws : List (Str × V)} {f : Addr} {fd : FuncData} {ps : List Str} {qual : Str}
/-- a call with keywords of a def without defaults -/
theorem kbindsN (F : FunD K x qual params body scope [] kws f fd) (n : Nat) (ks : List Str)
    (h : ∀ (kV doc pm : Value) (an : Option Addr) (cdv ct : Value) (us ws : List Value), us.length = n → ws.length = ks.length → bindArgs (PySem.W.fnOf x qual params body scope .none kV doc pm an cdv ct) ⟨us, ks.zip ws⟩ = pure (ps.zip (us ++ ws))) :
    KBn K fd ps n ks (fun us ws => us ++ ws) (fun vs zs => vs ++ zs) := by
  obtain ⟨oc, od, dV, kV, doc, pm, an, cdv, ct, osl, rfl, lk, hcd, hD, hK⟩ := F.ex
  rcases hD with ⟨_, rfl⟩ | ⟨e, _⟩
  · exact ⟨fun s us ws X l1 l2 => .of_eq (h kV doc pm an cdv ct us ws l1 l2), fun r1 r2 => r1.append r2⟩
  · exact absurd rfl e
end
end TC
/-! t[::-1] of a tuple: a new tuple of its own items. -/
namespace TCX
open PySem PySem.Spec PyProof.Rows L2 HT
def downN (n : Nat) : List Nat := (List.range n).map fun (k : Nat) => ((n : Int) - 1 + (k : Int) * (-1)).toNat
section
variable {prog : Program} {w : World} {A : Around} {E : Value → Shared → Prop} {s : Shared}
theorem sliceDown {sl : Addr} {t : Tok} {n : Nat} {Q : Int × Int × Nat → Shared → Prop} (hs : s.heap.IsSliceOf sl .none .none (.int (-1) t)) (h : Q ((n : Int) - 1, -1, n) s) :
    wpAny (model prog w) A (Builtin.Slice.sliceApplied (.ref sl) (pure (n : Int))) Q E s := by
  obtain ⟨os, hos, hcs, hds⟩ := id hs
  unfold Builtin.Slice.sliceApplied Builtin.Slice.sliceFields
  refine wpAny_bind (wpAny_bind (wpAny_field hos hds (x := .none) rfl (wpAny_bind (wpAny_field hos hds (x := .none) rfl (wpAny_bind (wpAny_field hos hds (x := .int (-1) t) rfl (wpAny_pure ?_)))))))
  refine wpAny_bind (slicePart_int ?_)
  show wpAny _ _ (if ((-1 : Int) == 0) = true then _ else _) _ _ s
  rw [if_neg (by decide)]
  refine wpAny_bind (slicePart_none (wpAny_bind (slicePart_none (wpAny_bind (wpAny_pure ?_)))))
  show wpAny _ _ (pure ((n : Int) - 1, (-1 : Int), Builtin.Slice.slicePlaces ((n : Int) - 1) (-1) (-1))) _ _ s
  have e : Builtin.Slice.slicePlaces ((n : Int) - 1) (-1) (-1) = n := by
    unfold Builtin.Slice.slicePlaces
    rw [if_neg (by decide)]
    split
    · rw [show (-(-1 : Int)) = 1 from rfl, Int.ediv_one]
      omega
    · omega
  rw [e]
  exact wpAny_pure h
theorem getItem_tuple_down {tp sl : Addr} {t : Tok} {items : Array Value} {Q : Value → Shared → Prop} (ht : IsTup s.heap tp items) (hs : s.heap.IsSliceOf sl .none .none (.int (-1) t))
    (h : Q (.ref s.heap.objs.size) { s with heap := s.heap.push { cls := .type "tuple", data := .seq ((downN items.size).filterMap (items.toList[·]?)).toArray } })
    (hsz : items.size ≤ sizeLine) : wpAny (model prog w) A (getItem (.ref tp) (.ref sl)) Q E s := by
  have el : (downN items.size).length = items.size := by
    unfold downN
    rw [List.length_map, List.length_range]
  have htake : sizeOk (.seq ((downN items.size).filterMap (items.toList[·]?)).toArray) := by
    show ((downN items.size).filterMap (items.toList[·]?)).toArray.size ≤ sizeLine
    rw [List.size_toArray]
    have := List.length_filterMap_le (items.toList[·]?) (downN items.size)
    omega
  have ep : ((List.range items.size).filterMap fun (k : Nat) => items[((items.size : Int) - 1 + (k : Int) * (-1)).toNat]?) = (downN items.size).filterMap (items.toList[·]?) := by
    unfold downN
    rw [List.filterMap_map]
    congr 1
    funext k
    simp
  obtain ⟨os, hos, hcs, hds⟩ := id hs
  have hTs : s.TypeIs (.ref sl) "slice" := ⟨os, hos, hcs⟩
  unfold getItem
  try with_reducible refine wpAny_holding ?_
  first | refine wpAny_bind (wpAny_pure ?_) | skip
  refine wpAny_bind (wpAny_sequenceKey ht.typeIs (by decide) ?_)
  refine wpAny_bind (wpAny_callSpecial?_slot (name := Str.ofString "__getitem__") ht.typeIs PyProof.Rows.slot_tuple_getitem
    (wpAny_call_entry PyProof.Rows.slot_tuple_getitem ht.typeIs entry_tuple_getitem ?_ (args_tuple_getitem _ _)))
  show wpAny _ _ (Builtin.Tuple.tupleItemsOf (.ref tp) >>= _) _ _ s
  refine wpAny_bind (tupleItemsOf_ ht ?_)
  refine wpAny_bind (wpAny_typeOf hTs ?_)
  rw [if_pos (by decide)]
  refine wpAny_bind (sliceDown hs ?_)
  show wpAny _ _ (if (((items.size : Int) - 1) == 0 && (-1 : Int) == 1 && items.size == items.size) = true then _ else _) _ _ s
  have hno : ¬ ((((items.size : Int) - 1) == 0 && (-1 : Int) == 1 && items.size == items.size) = true) := by
    simp
  rw [if_neg hno, ep]
  first
    | exact wpAny_bind (m := Builtin.Tuple.tupleExact _) (wpAny_newObj_type (wpAny_pure ⟨_, rfl, wpAny_pure h⟩) htake)
    | exact wpAny_bind (m := Builtin.Tuple.tupleExact _) (wpAny_newObj_type (wpAny_bind (wpAny_pure (wpAny_pure ⟨_, rfl, wpAny_pure h⟩))) htake)
    | exact wpAny_bind (wpAny_bind (m := Builtin.Tuple.tupleExact _) (wpAny_newObj_type (wpAny_pure (wpAny_pure ⟨_, rfl, wpAny_pure h⟩)) htake))
    | exact wpAny_bind (wpAny_bind (m := Builtin.Tuple.tupleExact _) (wpAny_newObj_type (wpAny_pure ⟨_, rfl, wpAny_pure h⟩) htake))
end
section
variable {X : Cx} {e : Expr} {te : TE} {se : Expr} {ts : TO} {pos p2 : Pos}
def tDownT (K : PySem.W.Frag) (te : TE) (tl th ts : TO) : TE := fun σ H Q => te σ H fun x H1 => tl σ H1 fun l H2 => th σ H2 fun u H3 => ts σ H3 fun c H4 => ∃ a xs, x = .ref a ∧ SqT K H4 a xs ∧ l = none ∧ u = none ∧ c = some (-1) ∧ ∀ p ys, H4 p = none → (∀ y ∈ ys, y ∈ xs) → ys.length ≤ xs.length → Q (.ref p) (upd H4 p (.tup ys))
theorem pe_downT {lo hi : Option Expr} {tl th : TO} (he : PE X e te) (hl : PO X lo tl) (hu : PO X hi th) (hs : PO X (some se) ts) : PE X (.Subscript e (.Slice lo hi (some se) p2) pos) (tDownT X.K te tl th ts) := by
  refine ⟨fun pins s σ H Q I h => ?_⟩
  refine Subscript_ (thn (he.run pins s σ H _ I h) fun v s1 ⟨x, H1, I1, r1, q1⟩ => ?_)
  refine wpAny_Slice (thn (hl.run pins s1 σ H1 _ I1 q1) fun vl s2 ⟨l, H2, I2, pl, q2⟩ => thn (hu.run pins s2 σ H2 _ I2 q2) fun vu s3 ⟨u, H3, I3, pu, q3⟩ => thn (hs.run pins s3 σ H3 _ I3 q3) fun vs s4 ⟨c, H4, I4, ps, q4⟩ => ?_)
  obtain ⟨a, xs, rfl, hx, rfl, rfl, rfl, q⟩ := q4
  have I5 : Inv X pins σ H4 { s4 with heap := s4.heap.push { cls := .type "slice", data := .fields #[vl, vu, vs] } } := I4.kept (t' := s4.toks) fun b ob q => Heap.get?_push_of_some _ q
  cases r1
  cases pl
  cases pu
  cases ps
  obtain ⟨its, r, ht, hz⟩ := I5.tuple hx
  have hlen := r.length
  refine tail_any (ops := [.ref a, .ref s4.heap.objs.size]) (T := "tuple") ht.typeIs PyProof.Rows.slot_tuple_getitem.lookup ?_ (by with_unfolding_all rfl)
  refine getItem_tuple_down ht (Heap.IsSliceOf.new ..) ?_ (by rw [List.size_toArray]; omega)
  have e0 : its.toArray.size = xs.length := by rw [List.size_toArray]; omega
  rw [e0]
  have hl2 : ((downN xs.length).filterMap (xs[·]?)).length ≤ xs.length := by
    have z := List.length_filterMap_le (xs[·]?) (downN xs.length)
    have : (downN xs.length).length = xs.length := by
      unfold downN
      rw [List.length_map, List.length_range]
    omega
  refine ⟨.ref _, _, I5.laid (t' := s4.toks) (o := .tup ((downN xs.length).filterMap (xs[·]?))) (fun b ob q => Heap.get?_push_of_some _ q) (Nat.le_refl _) ?_, rfl, q _ _ (I5.hok.fresh (Nat.le_refl _)) (fun y hy => ?_) hl2⟩
  · exact ⟨Nat.le_trans hl2 (by omega), _, vals_pick r _, IsTup.new _ _⟩
  · obtain ⟨i, _, e⟩ := List.mem_filterMap.mp hy
    exact List.mem_of_getElem? e
end
end TCX
namespace TC
set_option exponentiation.threshold 2000
open PySem PySem.Spec PyProof.Rows L2 TCA TCX
/-- what a spoilt label may be; S is the list that it is picked from -/
def Cand (p S : Addr) (H : Hp) (x : V) : Prop := (∃ a vs, x = .ref a ∧ H a = some (.tup vs) ∧ ∀ y ∈ vs, Flt y) ∨ (∃ a vs, x = .ref a ∧ a ≠ p ∧ a ≠ S ∧ H a = some (.lst vs)) ∨ x = .non ∨ x = .int 0
theorem Cand.same {p S : Addr} {H H' : Hp} {x : V} (h : Cand p S H x) (s : Same H H') : Cand p S H' x := by
  rcases h with ⟨a, vs, e, h1, h2⟩ | ⟨a, vs, e, h1, h2, h3⟩ | h | h
  · exact .inl ⟨a, vs, e, s _ _ h1, h2⟩
  · exact .inr (.inl ⟨a, vs, e, h1, h2, s _ _ h3⟩)
  · exact .inr (.inr (.inl h))
  · exact .inr (.inr (.inr h))
theorem Cand.pen {p S c : Addr} {H H' : Hp} {x : V} {ms : List Int} {n : Int} (h : Cand p S H x) (hp : PenAt H p c ms n) (s : SameBut p H H') : Cand p S H' x := by
  rcases h with ⟨a, vs, e, h1, h2⟩ | ⟨a, vs, e, h1, h2, h3⟩ | h | h
  · refine .inl ⟨a, vs, e, s _ _ (fun z => ?_) h1, h2⟩
    obtain ⟨_, y, _⟩ := hp
    rw [z, y] at h1
    cases h1
  · exact .inr (.inl ⟨a, vs, e, h1, h2, s _ _ h1 h3⟩)
  · exact .inr (.inr (.inl h))
  · exact .inr (.inr (.inr h))
theorem Cand.put {p S : Addr} {H : Hp} {x : V} {xs : List V} {o : HO} (h : Cand p S H x) (hS : H S = some (.lst xs)) : Cand p S (upd H S o) x := by
  rcases h with ⟨a, vs, e, h1, h2⟩ | ⟨a, vs, e, h1, h2, h3⟩ | h | h
  · refine .inl ⟨a, vs, e, ?_, h2⟩
    rw [upd_ne fun z => by rw [z, hS] at h1; cases h1]
    exact h1
  · exact .inr (.inl ⟨a, vs, e, h1, h2, by rw [upd_ne h2]; exact h3⟩)
  · exact .inr (.inr (.inl h))
  · exact .inr (.inr (.inr h))
theorem Cand.lab {K : PySem.W.Frag} {p S : Addr} {H : Hp} {x : V} (h : Cand p S H x) : ∃ o, LabV K H x o := by
  rcases h with ⟨a, vs, e, h1, h2⟩ | ⟨a, vs, rfl, h1, h2, h3⟩ | rfl | rfl
  · exact ⟨_, .inr ⟨a, vs, e, h1, rfl, h2⟩⟩
  · exact ⟨none, .inl ⟨rfl, _, .base (.lst h3), kit_ty (by decide +kernel)⟩⟩
  · exact ⟨none, .inl ⟨rfl, _, .base .non, kit_ty (by decide +kernel)⟩⟩
  · exact ⟨none, .inl ⟨rfl, _, .base (.int 0), kit_ty (by decide +kernel)⟩⟩
theorem cut_mem {xs : List V} {lo hi : Option Int} {y : V} (h : y ∈ cutV xs lo hi) : y ∈ xs := List.mem_of_mem_drop (List.mem_of_mem_take h)
theorem dp_intsT {K : PySem.W.Frag} {H : Hp} {a : Addr} {ns : List Int} (h : H a = some (.tup (ns.map V.int))) : Dp K H (.ref a) (.tuple (dInts ns)) := .tup (SqT.of h) (dpAll_ints ns)
theorem intsT_shaped (L : List Int) : SeqAt.shaped (.tuple (dInts L)) = true := by
  obtain ⟨a1, a2⟩ := ints_lay L
  show (PyData.canLayAll0 (dInts L) && decide (PyData.depthAll (dInts L) + 1 ≤ 64)) = true
  rw [a1, decide_eq_true (by omega)]
  rfl
theorem intsT_eqv (L M : List Int) : PyData.eqv (.tuple (dInts L)) (.tuple (dInts M)) = decide (L = M) := by
  show PyData.eqvAll (dInts L) (dInts M) = _
  exact ints_eqv L M
theorem flt_ints {l : List Int} {y : V} (h : y ∈ l.map V.int) : Flt y := by
  obtain ⟨n, _, rfl⟩ := List.mem_map.mp h
  exact .inl ⟨n, rfl⟩
section
variable {P : Program} {w : World} {K : PySem.W.Frag} {mg : Str → Option Value} {base : Heap} {f : Addr} {fd : FuncData}
/-! ### _law_bad_label -/
def spBadLabel (K : PySem.W.Frag) : Sp := fun vs H Q _ => ∃ (p c : Addr) (ms : List Int) (n : Int) (T : Addr) (l : List Int), vs = [.ref p, .ref T] ∧ PenAt H p c ms n ∧ 0 ≤ n ∧ n ≤ 500000 ∧ H T = some (.tup (l.map V.int)) ∧ l.length ≤ 9 ∧
  ∀ (v : V) (o : Option (List V)) (n' : Int) H', LabV K H' v o → n ≤ n' → n' ≤ n + 8 → PenAt H' p c ms n' → SameBut p H H' → Q v H'
abbrev nBadLabel : List Str := ["_law_pen_here", "_law_label", "_law_at", "_law_odd", "_law_some", "_law_k"]
theorem scBadLabel : FnScope nBadLabel ["_law_pen_here", "_law_label"] (defScope sBadLabel) := ⟨rfl, rfl, rfl, by decide +kernel, rfl, by decide +kernel, by decide +kernel⟩
theorem cases7 {d : Int} (h0 : 0 ≤ d) (h1 : d < 7) : d = 0 ∨ d = 1 ∨ d = 2 ∨ d = 3 ∨ d = 4 ∨ d = 5 ∨ d = 6 := by omega
theorem ok_badLabel {fD : Addr} {fdD : FuncData} (F : FnP K "_law_bad_label" sBadLabel f fd) (GD : FnOk P w K mg base CX0 1 fD fdD ["_law_pen_here", "_law_many"] spDraw) (bD : L2.Binds K fdD ["_law_pen_here", "_law_many"] []) (kD : PySem.W.keepIn K (.ref fD) = true) (gD : mg "_law_draw" = some (.ref fD)) (glen : mg "len" = none) (glist : mg "list" = none) :
    FnOk P w K mg base CX0 2 f fd ["_law_pen_here", "_law_label"] (spBadLabel K) := by
  refine F.ok scBadLabel (fun vs H Q E h => ?_) (fun cdv A outer s H vs Q E hr h => ?_)
  · obtain ⟨_, _, _, _, _, _, rfl, _⟩ := h
    rfl
  · obtain ⟨p, c, ms, n, T, l, rfl, pen, n0, n1, hT, l9, q⟩ := h
    have hu := hu_of hr
    refine ⟨_, PSs.nox (C8.pss_cut (ps_par (i := 2) (j := 3) (by rfl) scBadLabel.nd rfl rfl (by decide) rfl rfl (pa_cons (pe_call GD hr (by rfl) gD kD bD .nil pass0 (pa_cons (pv 0) (pa_cons (pe_op op_add (pe_callB call_len_seq (by rfl) glen PySem.boot_len (pa_cons (pv 1) pa_nil)) pe_int) pa_nil))) (pa_cons (pe_ix ix_list (pe_lst (pa_cons pe_int (pa_cons pe_int (pa_cons pe_int (pa_cons pe_bl (pa_cons pe_non (pa_cons pe_str (pa_cons (pe_un un_neg pe_int) pa_nil)))))))) (pe_call GD hr (by rfl) gD kD bD .nil pass0 (pa_cons (pv 0) (pa_cons pe_int pa_nil))) (fun _ _ => rfl)) pa_nil)) (by rfl))
      (C8.pss_cut (ps_set (i := 4) scBadLabel.nd rfl (.inl rfl) (pe_lst (pa_cons (pe_op op_catS (pe_op op_catS (pe_slice sl_tupS (pv 1) po_none (po_some (pv 2))) (pe_tup (pa_cons (pv 3) pa_nil))) (pe_slice sl_tupS (pv 1) (po_some (pe_op op_add (pv 2) pe_int)) po_none)) (pa_cons (pe_op op_catS (pv 1) (pe_tup (pa_cons (pv 3) pa_nil))) (pa_cons (pe_slice sl_tupS (pv 1) po_none (po_some (pe_un un_neg pe_int))) (pa_cons (pe_callTy call_list_of (by rfl) glist (by decide +kernel) (pa_cons (pv 1) pa_nil)) (pa_cons pe_non (pa_cons pe_int (pa_cons (pe_downT (pv 1) po_none po_none (po_some (pe_un un_neg pe_int))) pa_nil)))))))))
      (C8.pss_cut (ps_if (pt_cmpR (op_neD hr.units) (pv 1) (pe_tup pa_nil) (nomark _)) (pss_cons (ps_set (i := 5) scBadLabel.nd rfl (.inl rfl) (pe_call GD hr (by rfl) gD kD bD .nil pass0 (pa_cons (pv 0) (pa_cons (pe_callB call_len_seq (by rfl) glen PySem.boot_len (pa_cons (pv 1) pa_nil)) pa_nil))))
        (pss_cons (ps_expr (pe_bm PySem.F.plainAttrs_list PySem.F.slot_list_append PySem.F.type_list_append mt_append (pv 4) (pa_cons (pe_op op_catS (pe_op op_catS (pe_slice sl_tupS (pv 1) po_none (po_some (pv 5))) (pe_tup (pa_cons (pe_op op_sub (pe_op op_add (pe_ix ix_tup (pv 1) (pv 5) (fun _ _ => rfl)) (pe_op op_mul pe_int (pe_call GD hr (by rfl) gD kD bD .nil pass0 (pa_cons (pv 0) (pa_cons pe_int pa_nil))))) pe_int) pa_nil))) (pe_slice sl_tupS (pv 1) (po_some (pe_op op_add (pv 5) pe_int)) po_none)) pa_nil)))
        (pss_one (ps_expr (pe_bm PySem.F.plainAttrs_list PySem.F.slot_list_append PySem.F.type_list_append mt_append (pv 4) (pa_cons (pe_op op_catS (pe_op op_catS (pe_slice sl_tupS (pv 1) po_none (po_some (pv 5))) (pe_tup (pa_cons (pe_op op_add (pe_ix ix_tup (pv 1) (pv 5) (fun _ _ => rfl)) pe_int) pa_nil))) (pe_slice sl_tupS (pv 1) (po_some (pe_op op_add (pv 5) pe_int)) po_none)) pa_nil)))))) pss_nil)
      (pss_one (ps_ret (pe_ix ix_list (pv 4) (pe_call GD hr (by rfl) gD kD bD .nil pass0 (pa_cons (pv 0) (pa_cons (pe_callB call_len_seq (by rfl) glen PySem.boot_len (pa_cons (pv 4) pa_nil)) pa_nil))) (fun _ _ => rfl))))))), ?_⟩
    have hTp : T ≠ p := fun z => by
      obtain ⟨_, y, _⟩ := pen
      rw [z, y] at hT
      cases hT
    have hlen : (l.map V.int).length = l.length := List.length_map ..
    refine ⟨fun σ H' => ∃ (k : Nat) (v : V) (n' : Int), σ = [some (.ref p), some (.ref T), some (.int k), some v, none, none] ∧ k ≤ l.length ∧ Flt v ∧ n ≤ n' ∧ n' ≤ n + 2 ∧ PenAt H' p c ms n' ∧ SameBut p H H', ?_, fun σ H2 hM => ?_⟩
    · have big : ((l.map V.int).length : Int) + 1 < 2 ^ 1000 := Int.lt_of_lt_of_le (show ((l.map V.int).length : Int) + 1 < 1000 by omega) (by decide +kernel)
      refine ⟨_, rfl, _, rfl, T, _, rfl, .inr (SqT.of hT), _, 1, rfl, rfl, p, c, ms, n, _, rfl, pen, by omega, by omega, by omega, big, fun d1 n2 H2 a0 a1 a2 a3 p2 s2 => ?_⟩
      obtain ⟨k, rfl⟩ : ∃ k : Nat, d1 = k := ⟨d1.toNat, by omega⟩
      refine ⟨2, rfl, ?_⟩
      refine ⟨by show 7 ≤ sizeLine; decide, fun t1 h1 => ?_⟩
      have b1 := same_upd (o := .lst [.int 1, .int 2, .int 0, .bl true, .non, .str "2", .int (-2)]) h1
      refine ⟨_, rfl, p, c, ms, n2, 7, rfl, p2.same b1, by omega, by omega, by decide, by decide, fun d2 n3 H3 c0 c1 c2 c3 p3 s3 => ?_⟩
      have u1 := s3 _ _ (PenAt.ne p2 h1) upd_same
      have sb := SameBut.trans s2 (SameBut.trans (Same.but b1) s3)
      have kl : k ≤ l.length := by omega
      rcases cases7 c0 c1 with rfl | rfl | rfl | rfl | rfl | rfl | rfl
      · exact ⟨t1, _, 0, _, rfl, rfl, SqL.of u1, atI_nat (j := 0) rfl, _, _, rfl, k, _, n3, rfl, kl, .inl ⟨_, rfl⟩, by omega, by omega, p3, sb⟩
      · exact ⟨t1, _, 1, _, rfl, rfl, SqL.of u1, atI_nat (j := 1) rfl, _, _, rfl, k, _, n3, rfl, kl, .inl ⟨_, rfl⟩, by omega, by omega, p3, sb⟩
      · exact ⟨t1, _, 2, _, rfl, rfl, SqL.of u1, atI_nat (j := 2) rfl, _, _, rfl, k, _, n3, rfl, kl, .inl ⟨_, rfl⟩, by omega, by omega, p3, sb⟩
      · exact ⟨t1, _, 3, _, rfl, rfl, SqL.of u1, atI_nat (j := 3) rfl, _, _, rfl, k, _, n3, rfl, kl, .inr (.inr (.inl ⟨_, rfl⟩)), by omega, by omega, p3, sb⟩
      · exact ⟨t1, _, 4, _, rfl, rfl, SqL.of u1, atI_nat (j := 4) rfl, _, _, rfl, k, _, n3, rfl, kl, .inr (.inl rfl), by omega, by omega, p3, sb⟩
      · exact ⟨t1, _, 5, _, rfl, rfl, SqL.of u1, atI_nat (j := 5) rfl, _, _, rfl, k, _, n3, rfl, kl, .inr (.inr (.inr ⟨_, rfl⟩)), by omega, by omega, p3, sb⟩
      · exact ⟨t1, _, 6, _, rfl, rfl, SqL.of u1, atI_nat (j := 6) rfl, _, _, rfl, k, _, n3, rfl, kl, .inl ⟨_, rfl⟩, by omega, by omega, p3, sb⟩
    obtain ⟨k, v, n2, rfl, kl, fv, e0, e1, p2, s2⟩ := hM
    have hT2 := s2 _ _ hTp hT
    have short : ∀ lo hi, (cutV (l.map V.int) lo hi).length ≤ 9 := fun lo hi => Nat.le_trans (cutV_length _ _ _) (by omega)
    have fcut : ∀ (lo hi lo' hi' : Option Int) (x : V), Flt x → ∀ y ∈ cutV (l.map V.int) lo hi ++ [x] ++ cutV (l.map V.int) lo' hi', Flt y := fun lo hi lo' hi' x fx y hy => by
      rcases List.mem_append.mp hy with h | h
      · rcases List.mem_append.mp h with h | h
        · exact flt_ints (cut_mem h)
        · rw [List.mem_singleton.mp h]
          exact fx
      · exact flt_ints (cut_mem h)
    refine ⟨fun σ H' => ∃ (S : Addr) (xs : List V), σ = [some (.ref p), some (.ref T), some (.int k), some v, some (.ref S), none] ∧ H' S = some (.lst xs) ∧ xs.length = 7 ∧ S ≠ p ∧ H S = none ∧ (∀ x ∈ xs, Cand p S H' x) ∧ PenAt H' p c ms n2 ∧ SameBut p H H', ?_, fun σ H3 hM => ?_⟩
    · refine ⟨_, rfl, _, rfl, k, rfl, T, _, rfl, hT2, fun q1 G1 t1 hq1 => ?_⟩
      refine ⟨_, rfl, by show 1 ≤ sizeLine; decide, fun q2 h2 => ?_⟩
      have t2 := same_upd (o := .tup [v]) h2
      refine ⟨q1, q2, _, _, rfl, rfl, t2 _ _ hq1, upd_same, ?_, fun q3 G3 t3 hq3 => ?_⟩
      · rw [sizeLine_eq]
        have := short none (some (k : Int))
        show _ + 1 ≤ _
        omega
      have sm3 := (t1.trans t2).trans t3
      refine ⟨_, rfl, _, rfl, _, 1, rfl, rfl, _, rfl, T, _, rfl, sm3 _ _ hT2, fun q4 G4 t4 hq4 => ?_⟩
      refine ⟨q3, q4, _, _, rfl, rfl, t4 _ _ hq3, hq4, ?_, fun q5 G5 t5 hq5 => ?_⟩
      · rw [sizeLine_eq, List.length_append]
        have := short none (some (k : Int))
        have := short (some ((k : Int) + 1)) none
        show _ + 1 + _ ≤ _
        omega
      have sm5 := (sm3.trans t4).trans t5
      refine ⟨_, rfl, _, rfl, by show 1 ≤ sizeLine; decide, fun q6 h6 => ?_⟩
      have t6 := same_upd (o := .tup [v]) h6
      refine ⟨T, q6, _, _, rfl, rfl, (sm5.trans t6) _ _ hT2, upd_same, ?_, fun q7 G7 t7 hq7 => ?_⟩
      · rw [sizeLine_eq, List.length_map]
        show _ + 1 ≤ _
        omega
      have sm7 := (sm5.trans t6).trans t7
      refine ⟨_, rfl, 1, rfl, -1, rfl, T, _, rfl, sm7 _ _ hT2, fun q8 G8 t8 hq8 => ?_⟩
      have sm8 := sm7.trans t8
      refine ⟨_, rfl, T, _, rfl, .inr (SqT.of (sm8 _ _ hT2)), fun q9 h9 => ?_⟩
      have t9 := same_upd (o := .lst (l.map V.int)) h9
      have sm9 := sm8.trans t9
      refine ⟨_, rfl, 1, rfl, -1, rfl, T, _, rfl, SqT.of (sm9 _ _ hT2), rfl, rfl, rfl, fun q10 ys h10 hm hyl => ?_⟩
      have t10 := same_upd (o := .tup ys) h10
      refine ⟨by show 7 ≤ sizeLine; decide, fun S hS => ?_⟩
      have t11 := same_upd (o := .lst [.ref q5, .ref q7, .ref q8, .ref q9, .non, .int 0, .ref q10]) hS
      have sm11 := (sm9.trans t10).trans t11
      have hq9 := (t10.trans t11) _ _ (show upd G8 q9 (.lst (l.map V.int)) q9 = _ from upd_same)
      refine ⟨S, _, rfl, upd_same, rfl, PenAt.ne (p2.same (sm9.trans t10)) hS, SameBut.free (SameBut.trans s2 (Same.but (sm9.trans t10))) (p2.same (sm9.trans t10)) hS, fun x hx => ?_, p2.same sm11, SameBut.trans s2 (Same.but sm11)⟩
      simp only [List.mem_cons, List.not_mem_nil, or_false] at hx
      rcases hx with rfl | rfl | rfl | rfl | rfl | rfl | rfl
      · exact .inl ⟨q5, _, rfl, ((((((t6.trans t7).trans t8).trans t9).trans t10).trans t11)) _ _ hq5, fcut _ _ _ _ _ fv⟩
      · refine .inl ⟨q7, _, rfl, (((t8.trans t9).trans t10).trans t11) _ _ hq7, fun y hy => ?_⟩
        rcases List.mem_append.mp hy with h | h
        · exact flt_ints h
        · rw [List.mem_singleton.mp h]
          exact fv
      · exact .inl ⟨q8, _, rfl, ((t9.trans t10).trans t11) _ _ hq8, fun y hy => flt_ints (cut_mem hy)⟩
      · refine .inr (.inl ⟨q9, _, rfl, PenAt.ne (p2.same sm8) h9, ?_, hq9⟩)
        exact ne_of_none (t10 _ _ (show upd G8 q9 (.lst (l.map V.int)) q9 = _ from upd_same)) hS
      · exact .inr (.inr (.inl rfl))
      · exact .inr (.inr (.inr rfl))
      · exact .inl ⟨q10, ys, rfl, t11 _ _ upd_same, fun y hy => flt_ints (hm y hy)⟩
    obtain ⟨S, xs, rfl, hS, hxl, Sp, Sn, hC, p3, s3⟩ := hM
    have hT3 := s3 _ _ hTp hT
    refine ⟨fun σ H' => ∃ (xs : List V) (v5 : Option V) (n' : Int), σ = [some (.ref p), some (.ref T), some (.int k), some v, some (.ref S), v5] ∧ H' S = some (.lst xs) ∧ 1 ≤ xs.length ∧ xs.length ≤ 9 ∧ (∀ x ∈ xs, Cand p S H' x) ∧ n ≤ n' ∧ n' ≤ n + 4 ∧ PenAt H' p c ms n' ∧ SameBut p H H', ?_, fun σ H4 hM => ?_⟩
    · refine ⟨_, rfl, by show 0 ≤ sizeLine; decide, fun q0 h0 => ?_⟩
      have t0 := same_upd (o := .tup []) h0
      refine ⟨_, _, dp_intsT (t0 _ _ hT3), dp_intsT (ns := []) upd_same, intsT_shaped _, intsT_shaped _, _, rfl, ?_⟩
      rw [intsT_eqv]
      by_cases hnil : l = []
      · refine iteNF hnil ?_
        exact ⟨xs, none, n2, rfl, t0 _ _ hS, by omega, by omega, fun x hx => (hC x hx).same t0, by omega, by omega, p3.same t0, SameBut.trans s3 (Same.but t0)⟩
      refine iteNT hnil ?_
      have lpos : 0 < l.length := List.length_pos_iff.mpr hnil
      have hT4 := t0 _ _ hT3
      have hS4 := t0 _ _ hS
      have hC4 : ∀ x ∈ xs, Cand p S (upd H3 q0 (.tup [])) x := fun x hx => (hC x hx).same t0
      have p4 := p3.same t0
      have s4 := SameBut.trans s3 (Same.but (p := p) t0)
      generalize upd H3 q0 (.tup []) = H4 at hT4 hS4 hC4 p4 s4 ⊢
      have big : ((l.map V.int).length : Int) < 2 ^ 1000 := Int.lt_of_lt_of_le (show ((l.map V.int).length : Int) < 1000 by omega) (by decide +kernel)
      refine ⟨_, rfl, _, rfl, T, _, rfl, .inr (SqT.of hT4), p, c, ms, n2, _, rfl, p4, by omega, by omega, by omega, big, fun d1 n5 H5 a0 a1 a2 a3 p5 s5 => ?_⟩
      obtain ⟨m, rfl⟩ : ∃ m : Nat, d1 = m := ⟨d1.toNat, by omega⟩
      have hT5 := s5 _ _ hTp hT4
      have hS5 := s5 _ _ Sp hS4
      have hC5 : ∀ x ∈ xs, Cand p S H5 x := fun x hx => (hC4 x hx).pen p4 s5
      obtain ⟨cc, hcc⟩ : ∃ cc, l[m]? = some cc := ⟨_, List.getElem?_eq_getElem (by omega)⟩
      have hat : atI (l.map V.int) (m : Int) = some (.int cc) := atI_nat (by rw [List.getElem?_map, hcc]; rfl)
      have sz2 : ∀ x : V, (cutV (l.map V.int) none (some (m : Int))).length + ([x] : List V).length ≤ sizeLine := fun x => by
        rw [sizeLine_eq]
        have := short none (some (m : Int))
        show _ + 1 ≤ _
        omega
      have sz3 : ∀ x : V, (cutV (l.map V.int) none (some (m : Int)) ++ [x]).length + (cutV (l.map V.int) (some ((m : Int) + 1)) none).length ≤ sizeLine := fun x => by
        rw [sizeLine_eq, List.length_append]
        have := short none (some (m : Int))
        have := short (some ((m : Int) + 1)) none
        show _ + 1 + _ ≤ _
        omega
      refine ⟨_, rfl, .inl ⟨rfl, _, SqL.of hS5⟩, ?_⟩
      refine ⟨_, rfl, _, rfl, m, rfl, T, _, rfl, hT5, fun q1 G1 t1 hq1 => ?_⟩
      refine ⟨_, rfl, _, rfl, T, _, _, .int cc, rfl, rfl, SqT.of (t1 _ _ hT5), hat, _, rfl, p, c, ms, n5, 3, rfl, p5.same t1, by omega, by omega, by decide, by decide, fun d2 n6 G2 b0 b1 b2 b3 p6 s6 => ?_⟩
      refine ⟨2, d2, rfl, rfl, .inl ⟨by decide, by decide⟩, cc, _, rfl, rfl, _, 2, rfl, rfl, by show 1 ≤ sizeLine; decide, fun q2 h2 => ?_⟩
      have t2 := same_upd (o := .tup [.int (cc + 2 * d2 - 2)]) h2
      have hq1p : q1 ≠ p := fun z => by
        obtain ⟨_, y, _⟩ := p5.same t1
        rw [z, y] at hq1
        cases hq1
      refine ⟨q1, q2, _, _, rfl, rfl, t2 _ _ (s6 _ _ hq1p hq1), upd_same, sz2 _, fun q3 G3 t3 hq3 => ?_⟩
      have hT6 := (t2.trans t3) _ _ (s6 _ _ hTp (t1 _ _ hT5))
      refine ⟨_, rfl, _, rfl, _, 1, rfl, rfl, _, rfl, T, _, rfl, hT6, fun q4 G4 t4 hq4 => ?_⟩
      refine ⟨q3, q4, _, _, rfl, rfl, t4 _ _ hq3, hq4, sz3 _, fun q5 G5 t5 hq5 => ?_⟩
      have t25 := ((t2.trans t3).trans t4).trans t5
      have s65 : SameBut p H5 G5 := SameBut.trans (SameBut.trans (Same.but t1) s6) (Same.but t25)
      have hS6 := s65 _ _ Sp hS5
      have hC6 : ∀ x ∈ xs, Cand p S G5 x := fun x hx => (((hC5 x hx).same t1).pen (p5.same t1) s6).same t25
      have p7 := p6.same t25
      have hT7 := s65 _ _ hTp hT5
      refine ⟨S, _, _, rfl, rfl, hS6, by rw [hxl]; decide, ?_⟩
      have c5 : Cand p S G5 (.ref q5) := .inl ⟨q5, _, rfl, hq5, fcut _ _ _ _ _ (.inl ⟨_, rfl⟩)⟩
      have hS8 : upd G5 S (.lst (xs ++ [.ref q5])) S = some (.lst (xs ++ [.ref q5])) := upd_same
      have hC8 : ∀ x ∈ xs ++ [.ref q5], Cand p S (upd G5 S (.lst (xs ++ [.ref q5]))) x := fun x hx => by
        rcases List.mem_append.mp hx with h | h
        · exact (hC6 x h).put hS6
        · rw [List.mem_singleton.mp h]
          exact c5.put hS6
      have TS : T ≠ S := fun z => by
        rw [z, hS6] at hT7
        cases hT7
      have hT8 : upd G5 S (.lst (xs ++ [.ref q5])) T = some (.tup (l.map V.int)) := by
        rw [upd_ne TS]
        exact hT7
      have Sc : S ≠ c := fun z => by
        obtain ⟨_, _, y, _⟩ := pen
        rw [← z, Sn] at y
        cases y
      have p8 : PenAt (upd G5 S (.lst (xs ++ [.ref q5]))) p c ms n6 := by
        obtain ⟨lf, y1, y2, y3⟩ := p7
        exact ⟨lf, by rw [upd_ne Sp.symm]; exact y1, by rw [upd_ne Sc.symm]; exact y2, y3⟩
      have s8 : SameBut p H (upd G5 S (.lst (xs ++ [.ref q5]))) := fun b o hb e => by
        rw [upd_ne fun z => by rw [z, Sn] at e; cases e]
        exact SameBut.trans (SameBut.trans s4 s5) s65 b o hb e
      generalize upd G5 S (.lst (xs ++ [.ref q5])) = H8 at hS8 hC8 hT8 p8 s8 ⊢
      refine ⟨_, rfl, .inl ⟨rfl, _, SqL.of hS8⟩, ?_⟩
      refine ⟨_, rfl, _, rfl, m, rfl, T, _, rfl, hT8, fun r1 K1 w1 hr1 => ?_⟩
      refine ⟨_, rfl, _, rfl, T, _, _, .int cc, rfl, rfl, SqT.of (w1 _ _ hT8), hat, cc, 1, rfl, rfl, by show 1 ≤ sizeLine; decide, fun r2 h2' => ?_⟩
      have w2 := same_upd (o := .tup [.int (cc + 1)]) h2'
      refine ⟨r1, r2, _, _, rfl, rfl, w2 _ _ hr1, upd_same, sz2 _, fun r3 K3 w3 hr3 => ?_⟩
      refine ⟨_, rfl, _, rfl, _, 1, rfl, rfl, _, rfl, T, _, rfl, ((w1.trans w2).trans w3) _ _ hT8, fun r4 K4 w4 hr4 => ?_⟩
      refine ⟨r3, r4, _, _, rfl, rfl, w4 _ _ hr3, hr4, sz3 _, fun r5 K5 w5 hr5 => ?_⟩
      have w15 := (((w1.trans w2).trans w3).trans w4).trans w5
      have hS9 := w15 _ _ hS8
      have c9 : Cand p S K5 (.ref r5) := .inl ⟨r5, _, rfl, hr5, fcut _ _ _ _ _ (.inl ⟨_, rfl⟩)⟩
      refine ⟨S, _, _, rfl, rfl, hS9, by rw [List.length_append, hxl]; show 8 < sizeLine; decide, (xs ++ [.ref q5]) ++ [.ref r5], _, n6, rfl, upd_same, ?_, ?_, fun x hx => ?_, by omega, by omega, ?_, fun b o hb e => ?_⟩
      · rw [List.length_append, List.length_append, hxl]
        show 1 ≤ 9
        decide
      · rw [List.length_append, List.length_append, hxl]
        show 9 ≤ 9
        decide
      · rcases List.mem_append.mp hx with h | h
        · exact ((hC8 x h).same w15).put hS9
        · rw [List.mem_singleton.mp h]
          exact c9.put hS9
      · obtain ⟨lf, y1, y2, y3⟩ := p8.same w15
        exact ⟨lf, by rw [upd_ne Sp.symm]; exact y1, by rw [upd_ne Sc.symm]; exact y2, y3⟩
      · rw [upd_ne fun z => by rw [z, Sn] at e; cases e]
        exact w15 _ _ (s8 b o hb e)
    obtain ⟨xs', v5, n4, rfl, hS4, x1, x9, hC4, e2, e3, p4, s4⟩ := hM
    have big : (xs'.length : Int) < 2 ^ 1000 := Int.lt_of_lt_of_le (show (xs'.length : Int) < 1000 by omega) (by decide +kernel)
    refine ⟨_, rfl, _, rfl, _, rfl, S, _, rfl, .inl (SqL.of hS4), p, c, ms, n4, _, rfl, p4, by omega, by omega, by omega, big, fun d n5 H5 a0 a1 a2 a3 p5 s5 => ?_⟩
    obtain ⟨m, rfl⟩ : ∃ m : Nat, d = m := ⟨d.toNat, by omega⟩
    obtain ⟨x, hx⟩ : ∃ x, xs'[m]? = some x := ⟨_, List.getElem?_eq_getElem (by omega)⟩
    obtain ⟨o, ho⟩ := ((hC4 x (List.mem_of_getElem? hx)).pen p4 s5).lab (K := K)
    exact ⟨S, _, _, x, rfl, rfl, SqL.of (s5 _ _ Sp hS4), atI_nat hx, q x o n5 H5 ho (by omega) (by omega) p5 (SameBut.trans s4 s5)⟩
end
end TC
namespace TC
open PySem PySem.Spec PyProof.Rows L2 TCA TCX
abbrev qLaw : Str := (envOfC "law" (defScope sLaw) 0 0 .none).qual ++ "<lambda>"
abbrev tLaw (K : PySem.W.Frag) : List (Addr × Str) := [((He.cT K ("law", none)).2, qLaw)]
theorem IntD.extN {H H' : Hp} {d : Addr} {ks : List Int} {t : Int → Int} (h : IntD H d ks t) (s : LamX.ExtN H H') : IntD H' d ks t := by
  obtain ⟨kvs, h1, h2⟩ := h
  exact ⟨kvs, s _ _ h1 (fun _ z => by cases z), h2⟩
theorem WaysP.extN {H H' : Hp} {W : Addr} {rs : List Int} {n : Int} (h : WaysP H W rs n) (s : LamX.ExtN H H') : WaysP H' W rs n := by
  obtain ⟨ds, h1, h2, h3⟩ := h
  refine ⟨ds, s _ _ h1 (fun _ z => by cases z), h2, fun i d hi => ?_⟩
  obtain ⟨ks, t, g1, g2⟩ := h3 i d hi
  exact ⟨ks, t, IntD.extN g1 s, g2⟩
theorem WaysP.but {H H' : Hp} {W p c : Addr} {rs : List Int} {n m : Int} {ms : List Int} (h : WaysP H W rs n) (hp : PenAt H p c ms m) (hW : W ≠ p) (s : SameBut p H H') : WaysP H' W rs n := by
  obtain ⟨ds, h1, h2, h3⟩ := h
  obtain ⟨_, y, _⟩ := hp
  refine ⟨ds, s _ _ hW h1, h2, fun i d hi => ?_⟩
  obtain ⟨ks, t, g1, g2⟩ := h3 i d hi
  have hd := IntD.ne g1 y
  obtain ⟨kvs, a1, a2⟩ := g1
  exact ⟨ks, t, ⟨kvs, s _ _ hd a1, a2⟩, g2⟩
/-- what stays through a turn of the law -/
structure Wd (K : PySem.W.Frag) (p c la d lk W : Addr) (ms : List Int) (r0 : Int) (rest ks : List Int) (t : Int → Int) (u : Int) (n : Int) (H : Hp) : Prop where
  pen : PenAt H p c ms n
  tab : LamX.Tabs (tLaw K) H
  row : Row H la (r0 :: rest)
  kept : H lk = some (.lst ((r0 :: rest).map V.int))
  due : IntD H d ks t
  way : WaysP H W (r0 :: rest) u
  lap : la ≠ p
  lkp : lk ≠ p
  Wp : W ≠ p
section
variable {K : PySem.W.Frag} {p c la d lk W : Addr} {ms : List Int} {r0 : Int} {rest ks : List Int} {t : Int → Int} {u n n' : Int} {H H' : Hp}
theorem Wd.same (h : Wd K p c la d lk W ms r0 rest ks t u n H) (s : Same H H') : Wd K p c la d lk W ms r0 rest ks t u n H' :=
  ⟨h.pen.same s, h.tab.ext s, h.row.same s, s _ _ h.kept, h.due.same s, h.way.same s, h.lap, h.lkp, h.Wp⟩
theorem Wd.ext (h : Wd K p c la d lk W ms r0 rest ks t u n H) (s : LamX.ExtN H H') (T : LamX.Tabs (tLaw K) H') : Wd K p c la d lk W ms r0 rest ks t u n H' :=
  ⟨h.pen.extN s, T, h.row.extN s, s _ _ h.kept (fun _ z => by cases z), IntD.extN h.due s, h.way.extN s, h.lap, h.lkp, h.Wp⟩
theorem Wd.but (h : Wd K p c la d lk W ms r0 rest ks t u n H) (s : SameBut p H H') (p' : PenAt H' p c ms n') : Wd K p c la d lk W ms r0 rest ks t u n' H' := by
  refine ⟨p', tabs_but h.tab h.pen s, ⟨s _ _ h.lap h.row.at_, h.row.ne, h.row.le, h.row.sz⟩, s _ _ h.lkp h.kept, ?_, h.way.but h.pen h.Wp s, h.lap, h.lkp, h.Wp⟩
  obtain ⟨_, y, _⟩ := h.pen
  have hd := IntD.ne h.due y
  obtain ⟨kvs, a1, a2⟩ := h.due
  exact ⟨kvs, s _ _ hd a1, a2⟩
end
section
variable {K : PySem.W.Frag} {CR CS CP : Addr} {G : Hp} {Q : VK} {E : XK} {u v t : V} {b : Bool} {a : Addr} {rs rest : List Int} {r0 n m : Int}
theorem la_row (h1 : RowV K G u false) (h2 : Sml K 120 G t b) (e : E (.ref CR) none G) : spLabelAt K CR CS CP [u, v, t] G Q E :=
  ⟨u, v, t, false, b, rfl, h1, h2, fun _ => e, (fun z => by cases z), (fun z => by cases z)⟩
theorem la_size (h1 : Row G a rs) (h2 : Sml K 120 G t false) (e : E (.ref CS) none G) : spLabelAt K CR CS CP [.ref a, v, t] G Q E :=
  ⟨_, v, t, true, false, rfl, h1.rowV, h2, (fun z => by cases z), fun _ _ => e, (fun _ z => by cases z)⟩
theorem la_place (h1 : Row G a (r0 :: rest)) (n0 : 0 ≤ n) (n1 : n ≤ 120) (hv : (∃ m, v = .int m) ∨ (NotInt K G v ∧ ∀ m, v ≠ .int m)) (hn : ∀ m, v = .int m → ¬ (0 ≤ m ∧ m < rowT rest (one n) r0)) (e : ∀ G', Same G G' → E (.ref CP) none G') : spLabelAt K CR CS CP [.ref a, v, .int n] G Q E := by
  refine ⟨_, v, _, true, true, rfl, h1.rowV, Sml.int n0 n1, (fun z => by cases z), (fun _ z => by cases z), fun _ _ a' r0' rest' n' e1 h' e2 => ⟨hv, fun G' s _ => e G' s, fun m em m0 m1 => ?_⟩⟩
  cases e1
  cases e2
  cases row_inj h1 h'
  exact absurd ⟨m0, m1⟩ (hn m em)
theorem la_good (h1 : Row G a (r0 :: rest)) (n0 : 0 ≤ n) (n1 : n ≤ 120) (m0 : 0 ≤ m) (m1 : m < rowT rest (one n) r0) (q : ∀ (l : List Int) (T : Addr) G', Same G G' → G' T = some (.tup (l.map V.int)) → labB rest r0 l n → rankL rest r0 l n = m → Q (.ref T) G') : spLabelAt K CR CS CP [.ref a, .int m, .int n] G Q E := by
  refine ⟨_, _, _, true, true, rfl, h1.rowV, Sml.int n0 n1, (fun z => by cases z), (fun _ z => by cases z), fun _ _ a' r0' rest' n' e1 h' e2 => ?_⟩
  cases e1
  cases e2
  cases row_inj h1 h'
  refine ⟨.inl ⟨m, rfl⟩, fun G' s z => absurd ⟨m0, m1⟩ (z m rfl), fun m' em _ _ l T G' s hT hl hr => ?_⟩
  cases em
  exact q l T G' s hT hl hr
theorem po_row (h1 : RowV K G u false) (h2 : Sml K 120 G t b) (e : E (.ref CR) none G) : spPlaceOf K CR CS CP [u, v, t] G Q E :=
  ⟨u, v, t, false, b, rfl, h1, h2, fun _ => e, (fun z => by cases z), (fun z => by cases z)⟩
theorem po_size (h1 : Row G a rs) (h2 : Sml K 120 G t false) (e : E (.ref CS) none G) : spPlaceOf K CR CS CP [.ref a, v, t] G Q E :=
  ⟨_, v, t, true, false, rfl, h1.rowV, h2, (fun z => by cases z), fun _ _ => e, (fun _ z => by cases z)⟩
theorem po_bad {o : Option (List V)} (h1 : Row G a (r0 :: rest)) (n0 : 0 ≤ n) (n1 : n ≤ 120) (hv : LabV K G v o) (hn : ¬ GoodL rest r0 n o) (e : ∀ G', Same G G' → E (.ref CP) none G') : spPlaceOf K CR CS CP [.ref a, v, .int n] G Q E := by
  refine ⟨_, v, _, true, true, rfl, h1.rowV, Sml.int n0 n1, (fun z => by cases z), (fun _ z => by cases z), fun _ _ a' r0' rest' n' e1 h' e2 => ?_⟩
  cases e1
  cases e2
  cases row_inj h1 h'
  exact ⟨o, hv, fun _ G' s => e G' s, fun l el hl => absurd ⟨l, el, hl⟩ hn⟩
theorem po_good {l : List Int} (h1 : Row G a (r0 :: rest)) (n0 : 0 ≤ n) (n1 : n ≤ 120) (hv : LabV K G v (some (l.map V.int))) (hl : labB rest r0 l n) (q : ∀ G', Same G G' → Q (.int (rankL rest r0 l n)) G') : spPlaceOf K CR CS CP [.ref a, v, .int n] G Q E := by
  refine ⟨_, v, _, true, true, rfl, h1.rowV, Sml.int n0 n1, (fun z => by cases z), (fun _ z => by cases z), fun _ _ a' r0' rest' n' e1 h' e2 => ?_⟩
  cases e1
  cases e2
  cases row_inj h1 h'
  refine ⟨_, hv, fun z => absurd ⟨l, rfl, hl⟩ z, fun l' el hl' G' s => ?_⟩
  have e : l = l' := map_inj (Option.some.inj el)
  cases e
  exact q G' s
end
theorem LabV.extN {K : PySem.W.Frag} {H H' : Hp} {v : V} {o : Option (List V)} (h : LabV K H v o) (s : LamX.ExtN H H') : LabV K H' v o := by
  rcases h with ⟨e, t, h1, h2⟩ | ⟨a, vs, e1, h1, h2⟩
  · exact .inl ⟨e, t, ty_ext h1 s, h2⟩
  · exact .inr ⟨a, vs, e1, s _ _ h1 (fun _ z => by cases z), h2⟩
theorem sum_le12 : ∀ {rs : List Int}, (∀ s ∈ rs, 0 ≤ s ∧ s ≤ 12) → rs.sum ≤ 12 * (rs.length : Int)
  | [], _ => Int.le_refl _
  | s :: rs, h => by
    have h1 := (h s (by simp)).2
    have h2 := sum_le12 fun r hr => h r (List.mem_cons_of_mem _ hr)
    rw [List.sum_cons, List.length_cons]
    omega
/-- a label of whole numbers -/
theorem labV_ints {K : PySem.W.Frag} {H : Hp} {T : Addr} {l : List Int} (h : H T = some (.tup (l.map V.int))) : LabV K H (.ref T) (some (l.map V.int)) := .inr ⟨T, _, rfl, h, rfl, fun x hx => flt_ints hx⟩
end TC
namespace TC
open PySem PySem.Spec PyProof.Rows L2 TCA TCX
abbrev nLaw : List Str := ["_law_script", "_law_pen_here", "_law_turn", "_law_row_here", "_law_due", "_law_kept", "_law_size", "_law_ways_on", "_law_place", "_law_label", "_law_bad", "_law_odd"]
theorem scLaw : FnScope nLaw ["_law_script"] (defScope sLaw) := ⟨rfl, rfl, rfl, by decide +kernel, rfl, by decide +kernel, by decide +kernel⟩
def spLaw (K : PySem.W.Frag) : Sp := fun vs H Q _ => ∃ (a : Addr) (ns : List Int), vs = [.ref a] ∧ SqL K H a (ns.map V.int) ∧ ns.length ≤ 63 ∧ H (He.cT K ("law", none)).2 = some (.tbl #[]) ∧ ∀ H', Q (.bl true) H'
theorem fnG_of {CX : CXT} {P : Program} {w : World} {K : PySem.W.Frag} {mg : Str → Option Value} {base : Heap} {k : Nat} {f : Addr} {name qual : Str} {params : Arguments} {body : List Stmt} {scope : Scope} {dV kV doc pm cdv ct oc : Value} {an od : Option Addr}
    {osl : Array (Option Value)} {N ps : List Str} {sp : Sp} (lk : K.lookup f = some ⟨oc, od, .func (PySem.W.fnOf name qual params body scope dV kV doc pm an cdv ct), osl⟩) (hcd : PySem.W.codeIn K cdv qual = true) (S : FnScope N ps scope)
    (len : ∀ vs H Q E, sp vs H Q E → vs.length = ps.length)
    (hbody : ∀ (A : Around) (outer : List Env) (s : Shared) (H : Hp) (vs : List V) (Q : VK) (E : XK), A.guards = some [] → Room k (A.deeper (envOfC qual scope s.heap.objs.size f cdv)) → sp vs H Q E →
      ∃ t, PSs (cxOf CX P w K mg base N qual scope f cdv A outer s H E) body t ∧ t { nx := fun _ H' => Q .non H', rt := Q } (L2.start N vs) H) :
    FnG P w K mg base CX (k + 1) f (PySem.W.fnOf name qual params body scope dV kV doc pm an cdv ct) ps sp :=
  ⟨len, fun A outer s H args us vs Q E hg hr e0 hb r hsp => LamX.run_ofS lk hcd S hr e0 hb r (len _ _ _ _ hsp) fun hr' => hbody A outer s H vs Q E hg hr' hsp⟩
structure LTxt (P : Program) (w : World) (K : PySem.W.Frag) (mg : Str → Option Value) (base : Heap) (fP fD fR fC fB fL fF fI fN fA fO fK fW CR CS CP : Addr) (fdP fdD fdR fdC fdB fdL fdF fdI fdN fdA fdO fdK fdW : FuncData) : Prop where
  GP : FnOk P w K mg base CX0 1 fP fdP ["_law_script"] (spPen K)
  bP : L2.Binds K fdP ["_law_script"] []
  kP : PySem.W.keepIn K (.ref fP) = true
  gP : mg "_law_pen" = some (.ref fP)
  GD : FnOk P w K mg base CX0 1 fD fdD ["_law_pen_here", "_law_many"] spDraw
  bD : L2.Binds K fdD ["_law_pen_here", "_law_many"] []
  kD : PySem.W.keepIn K (.ref fD) = true
  gD : mg "_law_draw" = some (.ref fD)
  GR : FnOk P w K mg base CX0 2 fR fdR ["_law_pen_here", "_law_many", "_law_great"] spRow
  bR : L2.Binds K fdR ["_law_pen_here", "_law_many", "_law_great"] []
  kR : PySem.W.keepIn K (.ref fR) = true
  gR : mg "_law_row" = some (.ref fR)
  GC : FnOk P w K mg base CX0 2 fC fdC ["_law_row_here"] spCountsL
  bC : L2.Binds K fdC ["_law_row_here"] []
  kC : PySem.W.keepIn K (.ref fC) = true
  gC : mg "_law_counts" = some (.ref fC)
  GB : FnOk P w K mg base CX0 2 fB fdB ["_law_pen_here", "_law_row_here"] (spBadRow K)
  bB : L2.Binds K fdB ["_law_pen_here", "_law_row_here"] []
  kB : PySem.W.keepIn K (.ref fB) = true
  gB : mg "_law_bad_row" = some (.ref fB)
  GL : FnOk P w K mg base CX0 2 fL fdL ["_law_pen_here", "_law_label"] (spBadLabel K)
  bL : L2.Binds K fdL ["_law_pen_here", "_law_label"] []
  kL : PySem.W.keepIn K (.ref fL) = true
  gL : mg "_law_bad_label" = some (.ref fL)
  GF : FnOk P w K mg base CX0 2 fF fdF ["_law_row_here", "_law_size"] spAfter
  bF : L2.Binds K fdF ["_law_row_here", "_law_size"] []
  kF : PySem.W.keepIn K (.ref fF) = true
  gF : mg "_law_after" = some (.ref fF)
  GI : FnOk P w K mg base CX0 2 fI fdI ["_law_row_here", "_law_label", "_law_size"] (spIsLabel K)
  bI : L2.Binds K fdI ["_law_row_here", "_law_label", "_law_size"] []
  kI : PySem.W.keepIn K (.ref fI) = true
  gI : mg "_law_is_label" = some (.ref fI)
  GN : FnOk P w K mg base CX0 2 fN fdN ["_law_row_here", "_law_label", "_law_ways_on"] spRank
  bN : L2.Binds K fdN ["_law_row_here", "_law_label", "_law_ways_on"] []
  kN : PySem.W.keepIn K (.ref fN) = true
  gN : mg "_law_rank" = some (.ref fN)
  FA : FnP K "label_at" sLabelAt fA fdA
  GA : FnOk P w K mg base (L2.CX P w) 3 fA fdA ["row", "place", "to"] (spLabelAt K CR CS CP)
  gA : mg "label_at" = some (.ref fA)
  FO : FnP K "place_of" sPlaceOf fO fdO
  GO : FnOk P w K mg base (L2.CX P w) 3 fO fdO ["row", "label", "to"] (spPlaceOf K CR CS CP)
  gO : mg "place_of" = some (.ref fO)
  FK : FnP K "_law_kind" sKind fK fdK
  bK : L2.Binds K fdK ["_law_call"] []
  gK : mg "_law_kind" = some (.ref fK)
  GW : FnOk P w K mg base CX0 1 fW fdW ["_law_e"] (spWord K)
  bW : L2.Binds K fdW ["_law_e"] []
  kW : PySem.W.keepIn K (.ref fW) = true
  gW : mg "_law_word" = some (.ref fW)
  KT : KTxt K mg
  kdR : KindF K CR 8
  hxR : PySem.W.exmAny K (.ref CR) [.ref (He.ga K "TurnError"), .ref (He.ga K "NoPlace")] = some true
  kdS : KindF K CS 9
  hxS : PySem.W.exmAny K (.ref CS) [.ref (He.ga K "TurnError"), .ref (He.ga K "NoPlace")] = some true
  kdP : KindF K CP 20
  hxP : PySem.W.exmAny K (.ref CP) [.ref (He.ga K "TurnError"), .ref (He.ga K "NoPlace")] = some true
  grange : mg "range" = none
  glist : mg "list" = none
  gsorted : mg "sorted" = none
  glen : mg "len" = none
  gsum : mg "sum" = none
section
variable {P : Program} {w : World} {K : PySem.W.Frag} {mg : Str → Option Value} {base : Heap} {fP fD fR fC fB fL fF fI fN fA fO fK fW CR CS CP : Addr} {fd fdP fdD fdR fdC fdB fdL fdF fdI fdN fdA fdO fdK fdW : FuncData}
theorem ok_law (F : FnP K "law" sLaw (He.fAd K ("law", none)) fd) (T : LTxt P w K mg base fP fD fR fC fB fL fF fI fN fA fO fK fW CR CS CP fdP fdD fdR fdC fdB fdL fdF fdI fdN fdA fdO fdK fdW) (TB : LamX.TabB base mg (He.cT K ("law", none)).1 (He.cT K ("law", none)).2) : FnG P w K mg base CX0 6 (He.fAd K ("law", none)) fd ["_law_script"] (spLaw K) := by
  obtain ⟨oc, od, dV, kV, doc, pm, an, cdv, ct, osl, rfl, lk, hcd, _, _⟩ := F.ex
  obtain ⟨cc, rfl⟩ := He.codeIn_ref hcd
  have ecc : He.codeOf K ("law", none) = cc := He.codeOf_eq lk rfl
  obtain ⟨oc2, od2, dV2, kV2, doc2, pm2, an2, cdv2, ct2, osl2, e2, lk2, hcd2, _, _⟩ := T.FK.ex
  have bK := T.bK
  rw [e2] at bK lk2
  have kbA : KBn K fdA ["row", "place", "to"] 2 ["to"] (fun us ws => us ++ ws) (fun vs zs => vs ++ zs) := kbindsN T.FA 2 ["to"] fun _ _ _ _ _ _ us ws h1 h2 => match us, ws, h1, h2 with | [_, _], [_], _, _ => rfl
  have kbO : KBn K fdO ["row", "label", "to"] 2 ["to"] (fun us ws => us ++ ws) (fun vs zs => vs ++ zs) := kbindsN T.FO 2 ["to"] fun _ _ _ _ _ _ us ws h1 h2 => match us, ws, h1, h2 with | [_, _], [_], _, _ => rfl
  refine fnG_of lk hcd scLaw (fun vs H Q E h => ?_) (fun A outer s H vs Q E hG hr h => ?_)
  · obtain ⟨a, ns, rfl, _⟩ := h
    rfl
  · obtain ⟨a, ns, rfl, hS, hn, hTb, q⟩ := h
    have hr1 := hr.mono (show 1 ≤ 5 by decide)
    have hr2 := hr.mono (show 2 ≤ 5 by decide)
    have hr3 := hr.mono (show 3 ≤ 5 by decide)
    have hu := hr1.units
    have hu1 := hu_of hr
    have GA := boxed T.GA
    have GO := boxed T.GO
    refine ⟨_, PSs.nox (pss_cons (ps_set (i := 1) scLaw.nd rfl (.inl rfl) (pe_call T.GP hr1 (by rfl) T.gP T.kP T.bP .nil pass0 (pa_cons (pv 0) pa_nil)))
      (pss_cons (ps_for PassesOwn.never rfl (pi_range1 (by rfl) T.grange (pa_cons pe_int pa_nil)) (pg_name (i := 2) scLaw.nd rfl (.inr rfl))
        (pss_cons (ps_set (i := 3) scLaw.nd rfl (.inr rfl) (pe_call T.GR hr2 (by rfl) T.gR T.kR T.bR .nil pass0 (pa_cons (pv 1) (pa_cons (pe_op op_add pe_int (pe_call T.GD hr1 (by rfl) T.gD T.kD T.bD .nil pass0 (pa_cons (pv 1) (pa_cons pe_int pa_nil)))) (pa_cons (pe_ix ix_list (pe_lst (pa_cons pe_int (pa_cons pe_int (pa_cons pe_int (pa_cons pe_int pa_nil))))) (pv 2) (fun _ _ => rfl)) pa_nil)))))
      (C8.pss_cut (ps_par (i := 4) (j := 5) (by rfl) scLaw.nd rfl rfl (by decide) rfl rfl (pa_cons (pe_call T.GC hr2 (by rfl) T.gC T.kC T.bC .nil pass0 (pa_cons (pv 3) pa_nil)) (pa_cons (pe_callTy call_list_of (by rfl) T.glist (by decide +kernel) (pa_cons (pv 3) pa_nil)) pa_nil)) (by rfl))
      (C8.pss_cut (ps_set (i := 6) scLaw.nd rfl (.inr rfl) (pe_ix ix_list (pe_callB (call_sortedMany rfl) (by rfl) T.gsorted (by decide +kernel) (pa_cons (pv 4) pa_nil)) (pe_call T.GD hr1 (by rfl) T.gD T.kD T.bD .nil pass0 (pa_cons (pv 1) (pa_cons (pe_callB call_lenD (by rfl) T.glen PySem.boot_len (pa_cons (pv 4) pa_nil)) pa_nil))) (fun _ _ => rfl)))
      (C8.pss_cut (ps_set (i := 7) scLaw.nd rfl (.inl rfl) (pe_call T.GF hr2 (by rfl) T.gF T.kF T.bF .nil pass0 (pa_cons (pv 3) (pa_cons (pv 6) pa_nil))))
      (C8.pss_cut (ps_for PassesOwn.never rfl (pi_list (pe_lst (pa_cons pe_int (pa_cons (pe_op op_sub (pe_dget hu1 (pv 4) (pv 6) (fun _ _ => rfl)) pe_int) (pa_cons (pe_call T.GD hr1 (by rfl) T.gD T.kD T.bD .nil pass0 (pa_cons (pv 1) (pa_cons (pe_dget hu1 (pv 4) (pv 6) (fun _ _ => rfl)) pa_nil))) (pa_cons (pe_call T.GD hr1 (by rfl) T.gD T.kD T.bD .nil pass0 (pa_cons (pv 1) (pa_cons (pe_dget hu1 (pv 4) (pv 6) (fun _ _ => rfl)) pa_nil))) pa_nil)))))) (pg_name (i := 8) scLaw.nd rfl (.inr rfl))
        (C8.pss_cut (ps_set (i := 9) scLaw.nd rfl (.inl rfl) (pe_callN GA hr3 (by rfl) T.gA T.FA.kp kbA (E := E0) passL (pa_cons (pv 3) (pa_cons (pv 8) pa_nil)) (pk_cons (pv 6) pk_nil)))
      (C8.pss_cut (ps_if (PW.pt (pw_or (pt_not (pt_val (pe_call T.GI hr2 (by rfl) T.gI T.kI T.bI .nil pass0 (pa_cons (pv 3) (pa_cons (pv 9) (pa_cons (pv 6) pa_nil)))))) (pw_or1 (pt_cmpR op_ne (pe_call T.GN hr2 (by rfl) T.gN T.kN T.bN .nil pass0 (pa_cons (pv 3) (pa_cons (pv 9) (pa_cons (pv 7) pa_nil)))) (pv 8) (nomark _))))) (pss_one (ps_ret pe_bl)) pss_nil)
      (C8.pss_cut (ps_if (pt_cmpR op_ne (pe_callN GO hr3 (by rfl) T.gO T.FO.kp kbO (E := E0) passL (pa_cons (pv 3) (pa_cons (pv 9) pa_nil)) (pk_cons (pv 6) pk_nil)) (pv 8) (nomark _)) (pss_one (ps_ret pe_bl)) pss_nil)
      (C8.pss_cut (ps_set (i := 10) scLaw.nd rfl (.inr rfl) (pe_call T.GL hr2 (by rfl) T.gL T.kL T.bL .nil pass0 (pa_cons (pv 1) (pa_cons (pv 9) pa_nil))))
      (pss_one (ps_if (pt_val (pe_call T.GI hr2 (by rfl) T.gI T.kI T.bI .nil pass0 (pa_cons (pv 3) (pa_cons (pv 10) (pa_cons (pv 6) pa_nil))))) (pss_one (ps_if (pt_cmpR op_ne (pe_callN GO hr3 (by rfl) T.gO T.FO.kp kbO (E := E0) passL (pa_cons (pv 3) (pa_cons (pv 10) pa_nil)) (pk_cons (pv 6) pk_nil)) (pe_call T.GN hr2 (by rfl) T.gN T.kN T.bN .nil pass0 (pa_cons (pv 3) (pa_cons (pv 10) (pa_cons (pv 7) pa_nil)))) (nomark _)) (pss_one (ps_ret pe_bl)) pss_nil)) (pss_one (ps_if (pt_cmpR op_ne (LamX.pe_lamcall (T := tLaw K) (k := 3) (TT := TKind K) (t := fun E => tCallN 2 (["to"] : List Str).length (Box (spPlaceOf K CR CS CP)) (fun vs zs => vs ++ zs) E (tCons (tVar 3) (tCons (tVar 10) tNil)) (tCons (tVar 6) tNil)) (by rfl) T.gK T.FK.kp lk2 hcd2 bK scKind rfl (.inl rfl) (kind_gives T.KT T.GW T.bW T.kW T.gW hr2) TB (congrArg Value.ref ecc.symm) (List.mem_singleton.mpr rfl) (fun p hp _ => by rw [List.mem_singleton.mp hp]; rfl) hr (LamX.lamS_by (sc := defScope sLaw) (by decide +kernel)) rfl (fun _ _ _ _ _ => rfl)
            (fun A outer s H E f c' hrl => pe_callN (n := 2) (ks := ["to"]) GO hrl (by rfl) T.gO T.FO.kp kbO (passes_call (takes_of rfl rfl rfl rfl) fun _ _ _ _ z => z) (pa_cons (pv 3) (pa_cons (pv 10) pa_nil)) (pk_cons (pv 6) pk_nil))) pe_str (nomark _)) (pss_one (ps_ret pe_bl)) pss_nil)))))))))
      (C8.pss_cut (ps_for PassesOwn.never rfl (pi_tup (pe_tup (pa_cons (pe_dget hu1 (pv 4) (pv 6) (fun _ _ => rfl)) (pa_cons (pe_un un_neg pe_int) (pa_cons pe_non (pa_cons pe_bl (pa_cons pe_str (pa_cons (pe_op op_add (pe_dget hu1 (pv 4) (pv 6) (fun _ _ => rfl)) (pe_op op_pow pe_int pe_int)) pa_nil)))))))) (pg_name (i := 8) scLaw.nd rfl (.inr rfl))
        (pss_one (ps_if (pt_cmpR op_ne (LamX.pe_lamcall (T := tLaw K) (k := 3) (TT := TKind K) (t := fun E => tCallN 2 (["to"] : List Str).length (Box (spLabelAt K CR CS CP)) (fun vs zs => vs ++ zs) E (tCons (tVar 3) (tCons (tVar 8) tNil)) (tCons (tVar 6) tNil)) (by rfl) T.gK T.FK.kp lk2 hcd2 bK scKind rfl (.inl rfl) (kind_gives T.KT T.GW T.bW T.kW T.gW hr2) TB (congrArg Value.ref ecc.symm) (List.mem_singleton.mpr rfl) (fun p hp _ => by rw [List.mem_singleton.mp hp]; rfl) hr (LamX.lamS_by (sc := defScope sLaw) (by decide +kernel)) rfl (fun _ _ _ _ _ => rfl)
            (fun A outer s H E f c' hrl => pe_callN (n := 2) (ks := ["to"]) GA hrl (by rfl) T.gA T.FA.kp kbA (passes_call (takes_of rfl rfl rfl rfl) fun _ _ _ _ z => z) (pa_cons (pv 3) (pa_cons (pv 8) pa_nil)) (pk_cons (pv 6) pk_nil))) pe_str (nomark _)) (pss_one (ps_ret pe_bl)) pss_nil)))
      (C8.pss_cut (ps_set (i := 10) scLaw.nd rfl (.inr rfl) (pe_call T.GB hr2 (by rfl) T.gB T.kB T.bB .nil pass0 (pa_cons (pv 1) (pa_cons (pv 3) pa_nil))))
      (C8.pss_cut (ps_if (PW.pt (pw_or (pt_cmpR op_ne (LamX.pe_lamcall (T := tLaw K) (k := 3) (TT := TKind K) (t := fun E => tCallN 2 (["to"] : List Str).length (Box (spLabelAt K CR CS CP)) (fun vs zs => vs ++ zs) E (tCons (tVar 10) (tCons (tUn (rU fun i => .int (-i)) (tC (.int 1))) tNil)) (tCons (tUn (rU fun i => .int (-i)) (tC (.int 1))) tNil)) (by rfl) T.gK T.FK.kp lk2 hcd2 bK scKind rfl (.inl rfl) (kind_gives T.KT T.GW T.bW T.kW T.gW hr2) TB (congrArg Value.ref ecc.symm) (List.mem_singleton.mpr rfl) (fun p hp _ => by rw [List.mem_singleton.mp hp]; rfl) hr (LamX.lamS_by (sc := defScope sLaw) (by decide +kernel)) rfl (fun _ _ _ _ _ => rfl)
            (fun A outer s H E f c' hrl => pe_callN (n := 2) (ks := ["to"]) GA hrl (by rfl) T.gA T.FA.kp kbA (passes_call (takes_of rfl rfl rfl rfl) fun _ _ _ _ z => z) (pa_cons (pv 10) (pa_cons (pe_un un_neg pe_int) pa_nil)) (pk_cons (pe_un un_neg pe_int) pk_nil))) pe_str (nomark _)) (pw_or1 (pt_cmpR (op_neD hu) (pv 3) (pv 5) (nomark _))))) (pss_one (ps_ret pe_bl)) pss_nil)
      (C8.pss_cut (ps_if (pt_cmpR op_ne (LamX.pe_lamcall (T := tLaw K) (k := 3) (TT := TKind K) (t := fun E => tCallN 2 (["to"] : List Str).length (Box (spPlaceOf K CR CS CP)) (fun vs zs => vs ++ zs) E (tCons (tVar 3) (tCons (tC .non) tNil)) (tCons (tC (.int 121)) tNil)) (by rfl) T.gK T.FK.kp lk2 hcd2 bK scKind rfl (.inl rfl) (kind_gives T.KT T.GW T.bW T.kW T.gW hr2) TB (congrArg Value.ref ecc.symm) (List.mem_singleton.mpr rfl) (fun p hp _ => by rw [List.mem_singleton.mp hp]; rfl) hr (LamX.lamS_by (sc := defScope sLaw) (by decide +kernel)) rfl (fun _ _ _ _ _ => rfl)
            (fun A outer s H E f c' hrl => pe_callN (n := 2) (ks := ["to"]) GO hrl (by rfl) T.gO T.FO.kp kbO (passes_call (takes_of rfl rfl rfl rfl) fun _ _ _ _ z => z) (pa_cons (pv 3) (pa_cons pe_non pa_nil)) (pk_cons pe_int pk_nil))) pe_str (nomark _)) (pss_one (ps_ret pe_bl)) pss_nil)
      (C8.pss_cut (ps_if (pt_cmpR op_ne (LamX.pe_lamcall (T := tLaw K) (k := 3) (TT := TKind K) (t := fun E => tCallN 2 (["to"] : List Str).length (Box (spPlaceOf K CR CS CP)) (fun vs zs => vs ++ zs) E (tCons (tVar 10) (tCons (tTup tNil) tNil)) (tCons (tC (.int 0)) tNil)) (by rfl) T.gK T.FK.kp lk2 hcd2 bK scKind rfl (.inl rfl) (kind_gives T.KT T.GW T.bW T.kW T.gW hr2) TB (congrArg Value.ref ecc.symm) (List.mem_singleton.mpr rfl) (fun p hp _ => by rw [List.mem_singleton.mp hp]; rfl) hr (LamX.lamS_by (sc := defScope sLaw) (by decide +kernel)) rfl (fun _ _ _ _ _ => rfl)
            (fun A outer s H E f c' hrl => pe_callN (n := 2) (ks := ["to"]) GO hrl (by rfl) T.gO T.FO.kp kbO (passes_call (takes_of rfl rfl rfl rfl) fun _ _ _ _ z => z) (pa_cons (pv 10) (pa_cons (pe_tup pa_nil) pa_nil)) (pk_cons pe_int pk_nil))) pe_str (nomark _)) (pss_one (ps_ret pe_bl)) pss_nil)
      (C8.pss_cut (ps_set (i := 11) scLaw.nd rfl (.inr rfl) (pe_ix ix_list (pe_lst (pa_cons pe_int (pa_cons (pe_un un_neg pe_int) (pa_cons pe_non (pa_cons pe_bl (pa_cons pe_str (pa_cons (pe_tup pa_nil) (pa_cons (pe_op op_pow pe_int pe_int) pa_nil)))))))) (pe_call T.GD hr1 (by rfl) T.gD T.kD T.bD .nil pass0 (pa_cons (pv 1) (pa_cons pe_int pa_nil))) (fun _ _ => rfl)))
      (C8.pss_cut (ps_if (pt_cmpR op_ne (LamX.pe_lamcall (T := tLaw K) (k := 3) (TT := TKind K) (t := fun E => tCallN 2 (["to"] : List Str).length (Box (spLabelAt K CR CS CP)) (fun vs zs => vs ++ zs) E (tCons (tVar 3) (tCons (tOp (rIxL K) (tLst (tCons (tC (.int 0)) (tCons (tUn (rU fun i => .int (-i)) (tC (.int 1))) (tCons (tC .non) tNil)))) (tOp (rI (fun _ j => 0 < j) fun i j => .int (i % j)) (tVar 2) (tC (.int 3)))) tNil)) (tCons (tVar 11) tNil)) (by rfl) T.gK T.FK.kp lk2 hcd2 bK scKind rfl (.inl rfl) (kind_gives T.KT T.GW T.bW T.kW T.gW hr2) TB (congrArg Value.ref ecc.symm) (List.mem_singleton.mpr rfl) (fun p hp _ => by rw [List.mem_singleton.mp hp]; rfl) hr (LamX.lamS_by (sc := defScope sLaw) (by decide +kernel)) rfl (fun _ _ _ _ _ => rfl)
            (fun A outer s H E f c' hrl => pe_callN (n := 2) (ks := ["to"]) GA hrl (by rfl) T.gA T.FA.kp kbA (passes_call (takes_of rfl rfl rfl rfl) fun _ _ _ _ z => z) (pa_cons (pv 3) (pa_cons (pe_ix ix_list (pe_lst (pa_cons pe_int (pa_cons (pe_un un_neg pe_int) (pa_cons pe_non pa_nil)))) (pe_op op_mod (pv 2) pe_int) (fun _ _ => rfl)) pa_nil)) (pk_cons (pv 11) pk_nil))) pe_str (nomark _)) (pss_one (ps_ret pe_bl)) pss_nil)
      (pss_one (ps_if (pt_cmpR op_ne (LamX.pe_lamcall (T := tLaw K) (k := 3) (TT := TKind K) (t := fun E => tCallN 2 (["to"] : List Str).length (Box (spLabelAt K CR CS CP)) (fun vs zs => vs ++ zs) E (tCons (tVar 3) (tCons (tC (.int 0)) tNil)) (tCons (tIf (tTest (tOp (rI0 fun i j => .bl (decide (i < j))) (tCB (rSum K) (tCons (tVar 3) tNil)) (tC (.int 120)))) (tOp (rI0 fun i j => .int (i + j)) (tCB (rSum K) (tCons (tVar 3) tNil)) (tC (.int 1))) (tC (.int 1))) tNil)) (by rfl) T.gK T.FK.kp lk2 hcd2 bK scKind rfl (.inl rfl) (kind_gives T.KT T.GW T.bW T.kW T.gW hr2) TB (congrArg Value.ref ecc.symm) (List.mem_singleton.mpr rfl) (fun p hp _ => by rw [List.mem_singleton.mp hp]; rfl) hr (LamX.lamS_by (sc := defScope sLaw) (by decide +kernel)) rfl (fun _ _ _ _ _ => rfl)
            (fun A outer s H E f c' hrl => pe_callN (n := 2) (ks := ["to"]) GA hrl (by rfl) T.gA T.FA.kp kbA (passes_call (takes_of rfl rfl rfl rfl) fun _ _ _ _ z => z) (pa_cons (pv 3) (pa_cons pe_int pa_nil)) (pk_cons (pe_ifExp (pt_cmpR op_lt (pe_callB (cr_sum rfl) (by rfl) T.gsum (by decide +kernel) (pa_cons (pv 3) pa_nil)) pe_int (nomark _)) (pe_op op_add (pe_callB (cr_sum rfl) (by rfl) T.gsum (by decide +kernel) (pa_cons (pv 3) pa_nil)) pe_int) pe_int) pk_nil))) pe_str (nomark _)) (pss_one (ps_ret pe_bl)) pss_nil)))))))))))))))
      (pss_one (ps_ret pe_bl)))), ?_⟩

    have tb0 : LamX.Tabs (tLaw K) H := fun y hy => by
      rw [List.mem_singleton.mp hy]
      exact LamX.TabS.nil hTb
    refine ⟨_, rfl, a, ns, rfl, hS, hn, fun p c ms H1 sm hp0 hp1 hc1 hpc => ?_⟩
    have hP : PenAt H1 p c ms 0 := ⟨0, hp1, hc1, hpc⟩
    refine ⟨4, rfl, by decide, by decide, for_range (n := 4) (fun i σ H' => ∃ (n : Int) (z2 z3 z4 z5 z6 z7 z8 z9 z10 z11 : Option V), σ = [some (.ref a), some (.ref p), z2, z3, z4, z5, z6, z7, z8, z9, z10, z11] ∧ 0 ≤ n ∧ n ≤ 200 * i ∧ PenAt H' p c ms n ∧ LamX.Tabs (tLaw K) H')
      ⟨0, none, none, none, none, none, none, none, none, none, none, rfl, Int.le_refl _, by omega, hP, tb0.ext sm⟩ (fun i σ H2 hi hW => ?_) (fun σ H2 hW => ?_)⟩
    rotate_left
    · obtain ⟨n, z2, z3, z4, z5, z6, z7, z8, z9, z10, z11, rfl, _⟩ := hW
      exact q _
    obtain ⟨n, z2, z3, z4, z5, z6, z7, z8, z9, z10, z11, rfl, n0, n1, p2, tb2⟩ := hW
    have i4 : i < 4 := hi
    -- the row
    refine ⟨_, rfl, _, rfl, p, c, ms, n, 10, rfl, p2, n0, by omega, by decide, by decide, fun d0 n3 H3 d00 d01 x0 x1 p3 s3 => ?_⟩
    refine ⟨1, d0, rfl, rfl, by show 4 ≤ sizeLine; decide, fun l hl => ?_⟩
    have s4 := same_upd (o := .lst (([12, 5, 12, 2] : List Int).map V.int)) hl
    obtain ⟨gr, hgr, ev⟩ := pickI [12, 5, 12, 2] (d := 0 + ((i : Nat) : Int)) (by omega) (show 0 + ((i : Nat) : Int) < (4 : Int) by omega)
    have g01 : 0 ≤ gr ∧ gr ≤ 12 := by
      simp only [List.mem_cons, List.not_mem_nil, or_false] at hgr
      omega
    refine ⟨_, rfl, l, _, _, _, rfl, rfl, SqL.of upd_same, ev, p, c, ms, n3, 1 + d0, gr, rfl, p3.same s4, by omega, by omega, by omega, by omega, g01.1, g01.2, fun la rs n5 H5 hla lr hs x2 x3 p5 s5 hl5 => ?_⟩
    have lap : la ≠ p := PenAt.ne (p3.same s4) hla
    have tb5 := tabs_but ((tabs_but tb2 p2 s3).ext s4) (p3.same s4) s5
    have hR5 : Row H5 la rs := ⟨hl5, by omega, by omega, hs⟩
    clear s3 s4 s5 hl ev p3 p2 tb2 hla
    obtain ⟨r0, rest, rfl⟩ := row_cons hR5
    have r01 := hR5.sz r0 (by simp)
    have hsz : ∀ s ∈ rest, 0 ≤ s ∧ s ≤ 12 := fun s hs => hR5.sz s (List.mem_cons_of_mem _ hs)
    have l10 : rest.length + 1 ≤ 10 := hR5.le
    -- its counts, its copy
    refine ⟨fun σ H' => ∃ (lk d : Addr) (ks : List Int) (t : Int → Int), σ = [some (.ref a), some (.ref p), some (.int (0 + (i : Nat))), some (.ref la), some (.ref d), some (.ref lk), z6, z7, z8, z9, z10, z11] ∧ Row H' la (r0 :: rest) ∧ H' lk = some (.lst ((r0 :: rest).map V.int)) ∧ IntD H' d ks t ∧ (∀ g, pairI ks t g = rowT rest g r0) ∧ (∀ r ∈ ks, (0 ≤ r ∧ r ≤ 120) ∧ 0 < t r) ∧ ks ≠ [] ∧ PenAt H' p c ms n5 ∧ LamX.Tabs (tLaw K) H' ∧ lk ≠ p, ?_, fun σ H6 hM => ?_⟩
    · refine ⟨_, rfl, la, r0, rest, rfl, hR5, fun d ks t H7 s7 hID hpair hks hne => ?_⟩
      refine ⟨_, rfl, la, _, rfl, .inl (SqL.of (s7 _ _ hl5)), fun lk hk => ?_⟩
      have s6 := same_upd (o := .lst ((r0 :: rest).map V.int)) hk
      have s67 := s7.trans s6
      exact ⟨_, _, rfl, lk, d, ks, t, rfl, hR5.same s67, upd_same, hID.same s6, hpair, hks, hne, p5.same s67, tb5.ext s67, PenAt.ne (p5.same s7) hk⟩
    clear hR5 hl5 p5 tb5
    obtain ⟨lk, d, ks, t, rfl, hR, hlk, hID, hpair, hks, hne, p6, tb6, lkp⟩ := hM
    -- the size
    refine ⟨fun σ H' => ∃ (u n' : Int), σ = [some (.ref a), some (.ref p), some (.int (0 + (i : Nat))), some (.ref la), some (.ref d), some (.ref lk), some (.int u), z7, z8, z9, z10, z11] ∧ u ∈ ks ∧ n5 ≤ n' ∧ n' ≤ n5 + 1 ∧ PenAt H' p c ms n' ∧ SameBut p H6 H', ?_, fun σ H7 hM => ?_⟩
    · obtain ⟨kv, a1, a2, a3, a4, a5⟩ := id hID
      have lk5 : ks.length ≤ 121 := nodup_len (lo := 0) 121 a4 fun s hs => by
        have := hks s hs
        omega
      refine ⟨_, rfl, d, kv, ks, rfl, .inl a1, a2, by omega, fun zs l6 pm _ hl6 => ?_⟩
      have c1 := same_upd (o := .lst (zs.map V.int)) hl6
      have lkv := len_keys a2
      have kpos : 0 < ks.length := List.length_pos_iff.mpr hne
      refine ⟨_, rfl, _, rfl, d, kv, rfl, c1 _ _ a1, p, c, ms, n5, _, rfl, p6.same c1, by omega, by omega, by omega, Int.lt_of_lt_of_le (show (kv.length : Int) < 1000 by omega) (by decide +kernel), fun dd n6 H7 dd0 dd1 w0 w1 p7 s7 => ?_⟩
      obtain ⟨u, hu', ev'⟩ := pickI zs dd0 (by rw [pm.length_eq]; omega)
      exact ⟨l6, _, dd, _, rfl, rfl, SqL.of (s7 _ _ (PenAt.ne p6 hl6) upd_same), ev', u, n6, rfl, pm.mem_iff.mp hu', w0, w1, p7, SameBut.trans (Same.but c1) s7⟩
    obtain ⟨u, n6, rfl, hu6, x4, x5, p7, s7⟩ := hM
    obtain ⟨⟨u0, u1⟩, tu⟩ := hks u hu6
    have val : t u = rowT rest (one u) r0 := by
      rw [← IntD.val hID u, hpair]
    have top : t u < 2 ^ 1000 := by
      have z := rowT_le (n := u) hsz r0
      rw [← val] at z
      have y : (13 : Int) ^ rest.length ≤ 13 ^ 9 := by
        have : rest.length ≤ 9 := by omega
        exact_mod_cast Nat.pow_le_pow_right (by decide : 13 > 0) this
      exact Int.lt_of_le_of_lt (Int.le_trans z y) (by decide +kernel)
    -- the ways on
    refine ⟨fun σ H' => ∃ (W : Addr), σ = [some (.ref a), some (.ref p), some (.int (0 + (i : Nat))), some (.ref la), some (.ref d), some (.ref lk), some (.int u), some (.ref W), z8, z9, z10, z11] ∧ Wd K p c la d lk W ms r0 rest ks t u n6 H', ?_, fun σ H8 hM => ?_⟩
    · have hR7 : Row H7 la (r0 :: rest) := ⟨s7 _ _ lap hR.at_, hR.ne, hR.le, hR.sz⟩
      refine ⟨_, rfl, _, rfl, la, _, u, rfl, hR7, u0, u1, fun W H8 s8 hW => ?_⟩
      obtain ⟨_, y, _⟩ := id p6
      have hd := IntD.ne hID y
      obtain ⟨kvs, a1, a2⟩ := id hID
      refine ⟨W, rfl, p7.same s8, (tabs_but tb6 p6 s7).ext s8, hR7.same s8, s8 _ _ (s7 _ _ lkp hlk), ⟨kvs, s8 _ _ (s7 _ _ hd a1), a2⟩, hW, lap, lkp, fun z => ?_⟩
      obtain ⟨ds, h1, _⟩ := hW
      obtain ⟨_, y2, _⟩ := p7.same s8
      rw [z, y2] at h1
      have h1' := HO.lst.inj (Option.some.inj h1)
      match ds, h1' with
      | [_, _, _], h1' => simp at h1'
    clear hR hlk hID hne p6 tb6 p7 s7 hpair
    obtain ⟨W, rfl, wd⟩ := hM
    have dg : ∀ {G : Hp} {k : Int}, Wd K p c la d lk W ms r0 rest ks t u k G → DGet G d (.int u) (some (.int (t u))) := fun h => by
      obtain ⟨kvs, a1, a2, a3, _⟩ := h.due
      exact dget_in a1 (a3 u hu6)
    -- labels at places
    refine ⟨fun σ H' => ∃ (z8 z9 z10 : Option V) (n' : Int), σ = [some (.ref a), some (.ref p), some (.int (0 + (i : Nat))), some (.ref la), some (.ref d), some (.ref lk), some (.int u), some (.ref W), z8, z9, z10, z11] ∧ n5 ≤ n' ∧ n' ≤ n5 + 50 ∧ Wd K p c la d lk W ms r0 rest ks t u n' H', ?_, fun σ H9 hM => ?_⟩
    · refine ⟨_, rfl, _, rfl, d, .int (t u), rfl, dg wd, _, 1, rfl, rfl, _, rfl, _, rfl, _, rfl, d, .int (t u), rfl, dg wd, p, c, ms, n6, t u, rfl, wd.pen, by omega, by omega, tu, top, fun m3 n7 G1 a0 a1 w0 w1 p8 s8 => ?_⟩
      have wd1 := wd.but s8 p8
      refine ⟨_, rfl, _, rfl, _, rfl, d, .int (t u), rfl, dg wd1, p, c, ms, n7, t u, rfl, wd1.pen, by omega, by omega, tu, top, fun m4 n8 G2 a2 a3 w2 w3 p9 s9 => ?_⟩
      have wd2 := wd1.but s9 p9
      refine ⟨by show 4 ≤ sizeLine; decide, fun b2 hb2 => ?_⟩
      have c1 := same_upd (o := .lst (([0, t u - 1, m3, m4] : List Int).map V.int)) hb2
      obtain ⟨G, eG⟩ : ∃ G : Hp, upd G2 b2 (.lst [.int 0, .int (t u - 1), .int m3, .int m4]) = G := ⟨_, rfl⟩
      have wG : Wd K p c la d lk W ms r0 rest ks t u n8 G := by
        rw [← eG]
        exact wd2.same c1
      have hb2G : G b2 = some (.lst (([0, t u - 1, m3, m4] : List Int).map V.int)) := by
        rw [← eG]
        exact upd_same
      have b2p : b2 ≠ p := PenAt.ne wd2.pen hb2
      rw [eG]
      have hall : ∀ x ∈ ([0, t u - 1, m3, m4] : List Int), 0 ≤ x ∧ x < t u := fun x hx => by
        simp only [List.mem_cons, List.not_mem_nil, or_false] at hx
        omega
      have len4 : ([0, t u - 1, m3, m4] : List Int).length = 4 := rfl
      generalize ([0, t u - 1, m3, m4] : List Int) = ys at hb2G hall len4
      refine ⟨b2, rfl, ⟨_, SqL.of hb2G⟩, for_list (K := K) (a := b2) (xs := ys.map V.int) (fun j σ H' => ∃ (z8 z9 z10 : Option V) (n' : Int), σ = [some (.ref a), some (.ref p), some (.int (0 + (i : Nat))), some (.ref la), some (.ref d), some (.ref lk), some (.int u), some (.ref W), z8, z9, z10, z11] ∧ n8 ≤ n' ∧ n' ≤ n8 + 8 * (j : Int) ∧ Wd K p c la d lk W ms r0 rest ks t u n' H' ∧ H' b2 = some (.lst (ys.map V.int))) ⟨_, _, _, n8, rfl, Int.le_refl _, by omega, wG, hb2G⟩ (fun j σ H' _ z => ?_) (fun j x σ H' hx z => ?_) (fun σ H' z => ?_)⟩
      · obtain ⟨_, _, _, _, _, _, _, _, z⟩ := z
        exact SqL.of z
      rotate_left
      · obtain ⟨y8, y9, y10, n9, rfl, e0, e1, wz, _⟩ := z
        rw [List.length_map, len4] at e1
        exact ⟨_, _, _, n9, rfl, by omega, by omega, wz⟩
      obtain ⟨y8, y9, y10, n9, rfl, e0, e1, wz, hb2z⟩ := z
      obtain ⟨m, hm, rfl⟩ : ∃ m : Int, ys[j]? = some m ∧ x = .int m := by
        rw [List.getElem?_map] at hx
        cases e : ys[j]? with
        | none =>
          rw [e] at hx
          cases hx
        | some z =>
          rw [e] at hx
          exact ⟨z, rfl, (Option.some.inj hx).symm⟩
      have j4 : j < 4 := by
        have := (List.getElem?_eq_some_iff.mp hm).1
        omega
      obtain ⟨m0, m1⟩ := hall m (List.mem_of_getElem? hm)
      rw [val] at m1
      -- a label at a place
      refine ⟨fun σ H' => ∃ (T1 : Addr) (l1 : List Int), σ = [some (.ref a), some (.ref p), some (.int (0 + (i : Nat))), some (.ref la), some (.ref d), some (.ref lk), some (.int u), some (.ref W), some (.int m), some (.ref T1), y10, z11] ∧ H' T1 = some (.tup (l1.map V.int)) ∧ labB rest r0 l1 u ∧ rankL rest r0 l1 u = m ∧ Wd K p c la d lk W ms r0 rest ks t u n9 H' ∧ H' b2 = some (.lst (ys.map V.int)), ?_, fun σ G3 hM => ?_⟩
      · refine ⟨_, rfl, _, rfl, _, rfl, rfl, rfl, ⟨la_good wz.row u0 u1 m0 m1 fun l1 T1 G3 s10 hT1 hl1 hr1 => ?_⟩⟩
        exact ⟨T1, l1, rfl, hT1, hl1, hr1, wz.same s10, s10 _ _ hb2z⟩
      clear wz hb2z
      obtain ⟨T1, l1, rfl, hT1, hl1, hrk, wz, hb2z⟩ := hM
      -- it is one, and of that rank
      refine ⟨fun σ H' => σ = [some (.ref a), some (.ref p), some (.int (0 + (i : Nat))), some (.ref la), some (.ref d), some (.ref lk), some (.int u), some (.ref W), some (.int m), some (.ref T1), y10, z11] ∧ Same G3 H', ?_, fun σ G4 hM => ?_⟩
      · refine ⟨_, rfl, _, rfl, _, rfl, la, r0, rest, _, u, _, rfl, wz.row, labV_ints hT1, fun b G4 s11 hb => ?_⟩
        have bt : b = true := hb.mpr ⟨l1, rfl, hl1⟩
        subst bt
        refine ⟨_, rfl, iteF ?_⟩
        refine ⟨_, rfl, _, rfl, _, rfl, la, T1, W, r0, rest, l1, u, rfl, wz.row.same s11, s11 _ _ hT1, hl1, wz.way.same s11, fun G5 s12 => ?_⟩
        refine ⟨_, rfl, rfl, _, rfl, iteNS (by rw [hrk]) ⟨rfl, s11.trans s12⟩⟩
      obtain ⟨rfl, s11⟩ := hM
      replace wz := wz.same s11
      replace hT1 := s11 _ _ hT1
      replace hb2z := s11 _ _ hb2z
      clear s11
      refine ⟨fun σ H' => σ = [some (.ref a), some (.ref p), some (.int (0 + (i : Nat))), some (.ref la), some (.ref d), some (.ref lk), some (.int u), some (.ref W), some (.int m), some (.ref T1), y10, z11] ∧ Same G4 H', ?_, fun σ G5 hM => ?_⟩
      · refine ⟨_, rfl, _, rfl, _, rfl, rfl, rfl, ⟨po_good wz.row u0 u1 (labV_ints hT1) hl1 fun G5 s12 => ?_⟩⟩
        exact ⟨_, rfl, rfl, _, rfl, iteNS (by rw [hrk]) ⟨rfl, s12⟩⟩
      obtain ⟨rfl, s12⟩ := hM
      replace wz := wz.same s12
      replace hT1 := s12 _ _ hT1
      replace hb2z := s12 _ _ hb2z
      clear s12
      -- a spoilt one
      refine ⟨fun σ H' => ∃ (vb : V) (o : Option (List V)) (n' : Int), σ = [some (.ref a), some (.ref p), some (.int (0 + (i : Nat))), some (.ref la), some (.ref d), some (.ref lk), some (.int u), some (.ref W), some (.int m), some (.ref T1), some vb, z11] ∧ LabV K H' vb o ∧ n9 ≤ n' ∧ n' ≤ n9 + 8 ∧ Wd K p c la d lk W ms r0 rest ks t u n' H' ∧ H' b2 = some (.lst (ys.map V.int)), ?_, fun σ G6 hM => ?_⟩
      · refine ⟨_, rfl, _, rfl, p, c, ms, n9, T1, l1, rfl, wz.pen, by omega, by omega, hT1, by rw [lab_len hl1]; omega, fun vb o n10 G6 hv w4 w5 p10 s13 => ?_⟩
        exact ⟨vb, o, n10, rfl, hv, w4, w5, wz.but s13 p10, s13 _ _ b2p hb2z⟩
      clear wz hb2z hT1
      obtain ⟨vb, o, n10, rfl, hv, w4, w5, wz, hb2z⟩ := hM
      have fin : ∀ G', Same G6 G' → ∃ (z8 z9 z10 : Option V) (n' : Int), ([some (.ref a), some (.ref p), some (.int (0 + (i : Nat))), some (.ref la), some (.ref d), some (.ref lk), some (.int u), some (.ref W), some (.int m), some (.ref T1), some vb, z11] : L2.St) = [some (.ref a), some (.ref p), some (.int (0 + (i : Nat))), some (.ref la), some (.ref d), some (.ref lk), some (.int u), some (.ref W), z8, z9, z10, z11] ∧ n8 ≤ n' ∧ n' ≤ n8 + 8 * ((j + 1 : Nat) : Int) ∧ Wd K p c la d lk W ms r0 rest ks t u n' G' ∧ G' b2 = some (.lst (ys.map V.int)) := fun G' s => ⟨_, _, _, n10, rfl, by omega, by omega, wz.same s, s _ _ hb2z⟩
      refine ⟨_, rfl, _, rfl, _, rfl, la, r0, rest, vb, u, o, rfl, wz.row, hv, fun b G7 s14 hb => ?_⟩
      cases b with
      | true =>
        refine ⟨_, rfl, iteT ?_⟩
        obtain ⟨l2, eo, hl2⟩ := hb.mp rfl
        subst eo
        rcases hv with ⟨e, _⟩ | ⟨T2, vs, rfl, hT2, e, hf⟩
        · cases e
        cases e
        refine ⟨_, rfl, _, rfl, _, rfl, rfl, rfl, ⟨po_good (wz.row.same s14) u0 u1 (labV_ints (s14 _ _ hT2)) hl2 fun G8 s15 => ?_⟩⟩
        have sA := s14.trans s15
        refine ⟨_, rfl, _, rfl, _, rfl, la, T2, W, r0, rest, l2, u, rfl, wz.row.same sA, sA _ _ hT2, hl2, wz.way.same sA, fun G9 s16 => ?_⟩
        exact ⟨rfl, _, rfl, iteNS rfl (fin _ (sA.trans s16))⟩
      | false =>
        refine ⟨_, rfl, iteF ?_⟩
        have hng : ¬ GoodL rest r0 u o := fun z => by
          have := hb.mpr z
          cases this
        refine ⟨wz.tab.ext s14, fun H15 eN2 T15 H16 s16 => ?_⟩
        have eN3 := ((LamX.ExtN.of s14).trans eN2).trans (LamX.ExtN.of s16)
        refine ⟨_, rfl, _, rfl, _, rfl, rfl, rfl, ⟨po_bad (wz.row.extN eN3) u0 u1 (hv.extN eN3) hng fun G8 s15 => ?_⟩⟩
        refine ⟨CP, 20, rfl, rfl, T.kdP, by decide, T.hxP, fun H17 s17 => ?_⟩
        have sB := (s16.trans s15).trans s17
        exact ⟨rfl, _, rfl, iteNS rfl ⟨_, _, _, n10, rfl, by omega, by omega, ((wz.same s14).ext eN2 T15).same sB, sB _ _ (eN2 _ _ (s14 _ _ hb2z) (fun _ z => by cases z))⟩⟩
    clear wd
    obtain ⟨y8, y9, y10, n9, rfl, x6, x7, wd⟩ := hM
    -- places that are none
    refine ⟨fun σ H' => ∃ (z8 : Option V), σ = [some (.ref a), some (.ref p), some (.int (0 + (i : Nat))), some (.ref la), some (.ref d), some (.ref lk), some (.int u), some (.ref W), z8, y9, y10, z11] ∧ Wd K p c la d lk W ms r0 rest ks t u n9 H', ?_, fun σ H10 hM => ?_⟩
    · refine ⟨_, rfl, _, rfl, d, .int (t u), rfl, dg wd, 1, rfl, _, rfl, _, rfl, d, .int (t u), rfl, dg wd, 10, 9, rfl, rfl, ⟨by decide, by decide, by decide⟩, t u, _, rfl, rfl, by show 6 ≤ sizeLine; decide, fun b2 hb2 => ?_⟩
      have c1 := same_upd (o := .tup [.int (t u), .int (-1), .non, .bl true, .str "0", .int (t u + 10 ^ 9)]) hb2
      obtain ⟨G, eG⟩ : ∃ G : Hp, upd H9 b2 (.tup [.int (t u), .int (-1), .non, .bl true, .str "0", .int (t u + 10 ^ 9)]) = G := ⟨_, rfl⟩
      have wG : Wd K p c la d lk W ms r0 rest ks t u n9 G := by
        rw [← eG]
        exact wd.same c1
      have hb2G : G b2 = some (.tup [.int (t u), .int (-1), .non, .bl true, .str "0", .int (t u + 10 ^ 9)]) := by
        rw [← eG]
        exact upd_same
      have hall : ∀ x ∈ ([.int (t u), .int (-1), .non, .bl true, .str "0", .int (t u + 10 ^ 9)] : List V), Flt x ∧ ∀ m, x = .int m → ¬ (0 ≤ m ∧ m < rowT rest (one u) r0) := fun x hx => by
        simp only [List.mem_cons, List.not_mem_nil, or_false] at hx
        rcases hx with rfl | rfl | rfl | rfl | rfl | rfl
        · exact ⟨.inl ⟨_, rfl⟩, fun m e => by cases e; rw [val]; omega⟩
        · exact ⟨.inl ⟨_, rfl⟩, fun m e => by cases e; omega⟩
        · exact ⟨.inr (.inl rfl), fun m e => by cases e⟩
        · exact ⟨.inr (.inr (.inl ⟨_, rfl⟩)), fun m e => by cases e⟩
        · exact ⟨.inr (.inr (.inr ⟨_, rfl⟩)), fun m e => by cases e⟩
        · exact ⟨.inl ⟨_, rfl⟩, fun m e => by cases e; rw [val]; omega⟩
      have eG' : ∀ Z : Hp → Prop, Z G → Z (upd H9 b2 (.tup [.int (t u), .int (-1), .non, .bl true, .str "0", .int (t u + 10 ^ 9)])) := fun Z h => by
        rw [eG]
        exact h
      refine eG' (fun X => _) ?_
      generalize ([.int (t u), .int (-1), .non, .bl true, .str "0", .int (t u + 10 ^ 9)] : List V) = ys at hb2G hall
      refine ⟨b2, rfl, ⟨_, SqT.of hb2G⟩, for_tup (K := K) (a := b2) (xs := ys) (fun j σ H' => ∃ (z8 : Option V), σ = [some (.ref a), some (.ref p), some (.int (0 + (i : Nat))), some (.ref la), some (.ref d), some (.ref lk), some (.int u), some (.ref W), z8, y9, y10, z11] ∧ Wd K p c la d lk W ms r0 rest ks t u n9 H' ∧ H' b2 = some (.tup ys)) ⟨_, rfl, wG, hb2G⟩ (fun j σ H' _ z => ?_) (fun j x σ H' hx z => ?_) (fun σ H' z => ?_)⟩
      · obtain ⟨_, _, _, z⟩ := z
        exact SqT.of z
      rotate_left
      · obtain ⟨w8, rfl, wz, _⟩ := z
        exact ⟨_, rfl, wz⟩
      obtain ⟨w8, rfl, wz, hb2z⟩ := z
      obtain ⟨fx, hx2⟩ := hall x (List.mem_of_getElem? hx)
      refine ⟨wz.tab, fun H15 eN2 T15 H16 s16 => ?_⟩
      have eN3 := eN2.trans (LamX.ExtN.of s16)
      refine ⟨_, rfl, _, rfl, _, rfl, rfl, rfl, ⟨la_place (wz.row.extN eN3) u0 u1 fx.no hx2 fun G8 s15 => ?_⟩⟩
      refine ⟨CP, 20, rfl, rfl, T.kdP, by decide, T.hxP, fun H17 s17 => ?_⟩
      have sB := (s16.trans s15).trans s17
      exact ⟨rfl, _, rfl, iteNS rfl ⟨_, rfl, (wz.ext eN2 T15).same sB, sB _ _ (eN2 _ _ hb2z (fun _ z => by cases z))⟩⟩
    clear wd
    obtain ⟨w8, rfl, wd⟩ := hM
    -- a row that is none
    refine ⟨fun σ H' => ∃ (vb : V) (n' : Int), σ = [some (.ref a), some (.ref p), some (.int (0 + (i : Nat))), some (.ref la), some (.ref d), some (.ref lk), some (.int u), some (.ref W), w8, y9, some vb, z11] ∧ RowV K H' vb false ∧ n9 ≤ n' ∧ n' ≤ n9 + 5 ∧ Wd K p c la d lk W ms r0 rest ks t u n' H', ?_, fun σ H11 hM => ?_⟩
    · refine ⟨_, rfl, _, rfl, p, c, ms, n9, la, r0 :: rest, rfl, wd.pen, by omega, by omega, wd.row, lap, fun vb n10 H10 hvb w0 w1 p10 s10 => ?_⟩
      exact ⟨vb, n10, rfl, hvb, w0, w1, wd.but s10 p10⟩
    clear wd
    obtain ⟨vb, n10, rfl, hvb, x8, x9, wd⟩ := hM
    refine ⟨fun σ H' => σ = [some (.ref a), some (.ref p), some (.int (0 + (i : Nat))), some (.ref la), some (.ref d), some (.ref lk), some (.int u), some (.ref W), w8, y9, some vb, z11] ∧ RowV K H' vb false ∧ Wd K p c la d lk W ms r0 rest ks t u n10 H', ?_, fun σ H12 hM => ?_⟩
    · refine ⟨wd.tab, fun H15 eN2 T15 H16 s16 => ?_⟩
      have eN3 := eN2.trans (LamX.ExtN.of s16)
      refine ⟨_, rfl, 1, rfl, 1, rfl, rfl, rfl, ⟨la_row (hvb.extN eN3) (b := false) (.inl ⟨-1, rfl, rfl⟩) ?_⟩⟩
      refine ⟨CR, 8, rfl, rfl, T.kdR, by decide, T.hxR, fun H17 s17 => ?_⟩
      have sB := s16.trans s17
      have wd' := (wd.ext eN2 T15).same sB
      refine ⟨rfl, _, rfl, iteNS rfl ?_⟩
      refine ⟨_, rfl, _, rfl, _, _, dp_ints wd'.row.at_, dp_ints wd'.kept, ints_shaped _, ints_shaped _, _, rfl, ?_⟩
      rw [ints_same]
      exact iteF ⟨rfl, (hvb.extN eN2).same sB, wd'⟩
    clear wd hvb
    obtain ⟨rfl, hvb, wd⟩ := hM
    refine ⟨fun σ H' => σ = [some (.ref a), some (.ref p), some (.int (0 + (i : Nat))), some (.ref la), some (.ref d), some (.ref lk), some (.int u), some (.ref W), w8, y9, some vb, z11] ∧ RowV K H' vb false ∧ Wd K p c la d lk W ms r0 rest ks t u n10 H', ?_, fun σ H13 hM => ?_⟩
    · refine ⟨wd.tab, fun H15 eN2 T15 H16 s16 => ?_⟩
      have eN3 := eN2.trans (LamX.ExtN.of s16)
      refine ⟨_, rfl, rfl, rfl, ⟨po_size (wd.row.extN eN3) (.inl ⟨121, rfl, rfl⟩) ?_⟩⟩
      refine ⟨CS, 9, rfl, rfl, T.kdS, by decide, T.hxS, fun H17 s17 => ?_⟩
      have sB := s16.trans s17
      exact ⟨rfl, _, rfl, iteNS rfl ⟨rfl, (hvb.extN eN2).same sB, (wd.ext eN2 T15).same sB⟩⟩
    clear wd hvb
    obtain ⟨rfl, hvb, wd⟩ := hM
    refine ⟨fun σ H' => σ = [some (.ref a), some (.ref p), some (.int (0 + (i : Nat))), some (.ref la), some (.ref d), some (.ref lk), some (.int u), some (.ref W), w8, y9, some vb, z11] ∧ Wd K p c la d lk W ms r0 rest ks t u n10 H', ?_, fun σ H14 hM => ?_⟩
    · refine ⟨wd.tab, fun H15 eN2 T15 H16 s16 => ?_⟩
      have eN3 := eN2.trans (LamX.ExtN.of s16)
      refine ⟨_, rfl, by show 0 ≤ sizeLine; decide, fun q0 h0 => ?_⟩
      have t0 := same_upd (o := .tup []) h0
      refine ⟨rfl, rfl, ⟨po_row ((hvb.extN eN3).same t0) (b := true) (Sml.int (by decide) (by decide)) ?_⟩⟩
      refine ⟨CR, 8, rfl, rfl, T.kdR, by decide, T.hxR, fun H17 s17 => ?_⟩
      have sB := (s16.trans t0).trans s17
      exact ⟨rfl, _, rfl, iteNS rfl ⟨rfl, (wd.ext eN2 T15).same sB⟩⟩
    clear wd hvb
    obtain ⟨rfl, wd⟩ := hM
    -- a size that is none
    refine ⟨fun σ H' => ∃ (vo : V) (n' : Int), σ = [some (.ref a), some (.ref p), some (.int (0 + (i : Nat))), some (.ref la), some (.ref d), some (.ref lk), some (.int u), some (.ref W), w8, y9, some vb, some vo] ∧ Sml K 120 H' vo false ∧ n10 ≤ n' ∧ n' ≤ n10 + 1 ∧ Wd K p c la d lk W ms r0 rest ks t u n' H', ?_, fun σ H15 hM => ?_⟩
    · refine ⟨1, rfl, by show 0 ≤ sizeLine; decide, fun t1 h1 => ?_⟩
      have c1 := same_upd (o := .tup []) h1
      refine ⟨10, 9, rfl, rfl, ⟨by decide, by decide, by decide⟩, by show 7 ≤ sizeLine; decide, fun t2 h2 => ?_⟩
      have c2 := same_upd (o := .lst [.int 121, .int (-1), .non, .bl true, .str "2", .ref t1, .int (10 ^ 9)]) h2
      have c12 := c1.trans c2
      have wd' := wd.same c12
      refine ⟨_, rfl, p, c, ms, n10, 7, rfl, wd'.pen, by omega, by omega, by decide, by decide, fun dd n11 H11 dd0 dd1 w2 w3 p11 s11 => ?_⟩
      have u1' := s11 t1 _ (PenAt.ne wd.pen h1) (c2 _ _ upd_same)
      have u2' := s11 t2 _ (PenAt.ne (wd.pen.same c1) h2) upd_same
      have wd2 := wd'.but s11 p11
      have dn : ∀ v, NotInt K H11 v → Sml K 120 H11 v false := fun v z => .inr ⟨rfl, z⟩
      rcases cases7 dd0 dd1 with rfl | rfl | rfl | rfl | rfl | rfl | rfl
      · exact ⟨t2, _, 0, _, rfl, rfl, SqL.of u2', atI_nat (j := 0) rfl, _, n11, rfl, .inl ⟨121, rfl, rfl⟩, w2, w3, wd2⟩
      · exact ⟨t2, _, 1, _, rfl, rfl, SqL.of u2', atI_nat (j := 1) rfl, _, n11, rfl, .inl ⟨-1, rfl, rfl⟩, w2, w3, wd2⟩
      · exact ⟨t2, _, 2, _, rfl, rfl, SqL.of u2', atI_nat (j := 2) rfl, _, n11, rfl, dn _ no_non, w2, w3, wd2⟩
      · exact ⟨t2, _, 3, _, rfl, rfl, SqL.of u2', atI_nat (j := 3) rfl, _, n11, rfl, dn _ (no_bl _), w2, w3, wd2⟩
      · exact ⟨t2, _, 4, _, rfl, rfl, SqL.of u2', atI_nat (j := 4) rfl, _, n11, rfl, dn _ (no_str _), w2, w3, wd2⟩
      · exact ⟨t2, _, 5, _, rfl, rfl, SqL.of u2', atI_nat (j := 5) rfl, _, n11, rfl, dn _ (no_tup u1'), w2, w3, wd2⟩
      · exact ⟨t2, _, 6, _, rfl, rfl, SqL.of u2', atI_nat (j := 6) rfl, _, n11, rfl, .inl ⟨10 ^ 9, rfl, by decide⟩, w2, w3, wd2⟩
    clear wd
    obtain ⟨vo, n11, rfl, hvo, xa, xb, wd⟩ := hM
    refine ⟨fun σ H' => σ = [some (.ref a), some (.ref p), some (.int (0 + (i : Nat))), some (.ref la), some (.ref d), some (.ref lk), some (.int u), some (.ref W), w8, y9, some vb, some vo] ∧ Wd K p c la d lk W ms r0 rest ks t u n11 H', ?_, fun σ H16 hM => ?_⟩
    · refine ⟨wd.tab, fun H15 eN2 T15 H16 s16 => ?_⟩
      have eN3 := eN2.trans (LamX.ExtN.of s16)
      refine ⟨_, rfl, 1, rfl, by show 3 ≤ sizeLine; decide, fun q0 h0 => ?_⟩
      have t0 := same_upd (o := .lst [.int 0, .int (-1), .non]) h0
      have hm : ∃ x, atI ([.int 0, .int (-1), .non] : List V) ((0 + (i : Int)) % 3) = some x := by
        match i, i4 with
        | 0, _ => exact ⟨_, rfl⟩
        | 1, _ => exact ⟨_, rfl⟩
        | 2, _ => exact ⟨_, rfl⟩
        | 3, _ => exact ⟨_, rfl⟩
      obtain ⟨x, hx⟩ := hm
      refine ⟨_, rfl, _, 3, rfl, rfl, (by show (0 : Int) < 3; decide), q0, _, _, x, rfl, rfl, SqL.of upd_same, hx, _, rfl, rfl, rfl, ⟨la_size ((wd.row.extN eN3).same t0) ((hvo.extN eN3).same t0) ?_⟩⟩
      refine ⟨CS, 9, rfl, rfl, T.kdS, by decide, T.hxS, fun H17 s17 => ?_⟩
      have sB := (s16.trans t0).trans s17
      exact ⟨rfl, _, rfl, iteNS rfl ⟨rfl, (wd.ext eN2 T15).same sB⟩⟩
    clear wd hvo
    obtain ⟨rfl, wd⟩ := hM
    -- beyond the sum
    refine ⟨wd.tab, fun H15 eN2 T15 H16 s16 => ?_⟩
    have eN3 := eN2.trans (LamX.ExtN.of s16)
    have hR' := wd.row.extN eN3
    have sn := sum_nn hR'.sz
    have hs0 : ∀ s ∈ rest, 0 ≤ s := fun s hs => (hsz s hs).1
    have fin : ∀ (n' : Int), 0 ≤ n' → n' ≤ 120 → (r0 + rest.sum < n' ∨ (r0 + rest.sum - n') % 2 = 1) → ∀ {Q : VK} {E : XK}, (∀ G', Same H16 G' → E (.ref CP) none G') → spLabelAt K CR CS CP [.ref la, .int 0, .int n'] H16 Q E := fun n' h0 h1 h2 Q E e => by
      refine la_place hR' h0 h1 (.inl ⟨0, rfl⟩) (fun m em => ?_) e
      cases em
      rw [rowT_none r01.1 hs0 h2]
      omega
    refine ⟨_, rfl, _, rfl, la, _, rfl, SqL.of hR'.at_, _, 120, rfl, rfl, _, rfl, iteB (fun y => ?_) fun y => ?_⟩
    · refine ⟨_, rfl, la, _, rfl, SqL.of hR'.at_, _, 1, rfl, rfl, rfl, rfl, ⟨fin _ ?_ ?_ ?_ fun G8 s15 => ?_⟩⟩
      · omega
      · have := of_decide_eq_true y
        omega
      · rw [List.sum_cons]
        exact .inl (by omega)
      refine ⟨CP, 20, rfl, rfl, T.kdP, by decide, T.hxP, fun H17 s17 => ?_⟩
      have sB := (s16.trans s15).trans s17
      have wd' := (wd.ext eN2 T15).same sB
      refine ⟨rfl, _, rfl, iteNS rfl ⟨n11, _, _, _, _, _, _, _, _, _, _, rfl, by omega, ?_, wd'.pen, wd'.tab⟩⟩
      have : (((i + 1 : Nat)) : Int) = (i : Int) + 1 := by omega
      omega
    · refine ⟨rfl, rfl, ⟨fin 1 (by decide) (by decide) ?_ fun G8 s15 => ?_⟩⟩
      · have y' := of_decide_eq_false y
        have z := sum_le12 hR'.sz
        rw [List.sum_cons] at y' z
        rw [List.length_cons] at z
        exact .inr (by omega)
      refine ⟨CP, 20, rfl, rfl, T.kdP, by decide, T.hxP, fun H17 s17 => ?_⟩
      have sB := (s16.trans s15).trans s17
      have wd' := (wd.ext eN2 T15).same sB
      refine ⟨rfl, _, rfl, iteNS rfl ⟨n11, _, _, _, _, _, _, _, _, _, _, rfl, by omega, ?_, wd'.pen, wd'.tab⟩⟩
      have : (((i + 1 : Nat)) : Int) = (i : Int) + 1 := by omega
      omega
end
end TC
namespace TC
open PySem PySem.Spec PyProof.Rows L2
theorem run (w : World) : HandSHeadRun.RunEq R (PySem.W.view R.prog [48]) hk ob 30000 loose w := by
  intro os
  kernel_rfl
end TC
namespace TC
open PySem PySem.Spec PyProof.Rows L2 TCA TCX
theorem facts {P : Program} {w : World} {K : PySem.W.Frag} {h : Heap} {mg : Str → Option Value} {f : Addr} (X : K.In h) (G : h.Ns mainGlobals mg) (hfa : mg ("law" : Str) = some (.ref f)) (sx : He.SaysX fa fn [] tf exB w h K) :
    ∃ fd : FuncData, (∀ (s : Shared) (v : Value), BindsTo s fd ⟨[v], []⟩ [("_law_script", v)]) ∧ ∀ base : Heap, K.In base → base.Ns mainGlobals mg → LamX.TabB base mg (He.cT K ("law", none)).1 (He.cT K ("law", none)).2 → FnG P w K mg base CX0 6 f fd ["_law_script"] (spLaw K) := by
  have c := sx.t.d
  obtain ⟨fd0, F0⟩ := c.def_ 0 (d := dd "is_whole" sWhole) rfl
  obtain ⟨fd1, F1⟩ := c.def_ 1 (d := dd "label_at" sLabelAt) rfl
  obtain ⟨fd2, F2⟩ := c.def_ 2 (d := dd "place_of" sPlaceOf) rfl
  obtain ⟨fd3, F3⟩ := c.def_ 3 (d := dd "need_row" sNeedRow) rfl
  obtain ⟨fd4, F4⟩ := c.def_ 4 (d := dd "ends_of" sEnds) rfl
  obtain ⟨fd5, F5⟩ := c.def_ 5 (d := dd "ways_to" sWays) rfl
  obtain ⟨fd6, F6⟩ := c.def_ 6 (d := dd "_law_pen" sPen) rfl
  obtain ⟨fd7, F7⟩ := c.def_ 7 (d := dd "_law_draw" sDraw) rfl
  obtain ⟨fd8, F8⟩ := c.def_ 8 (d := dd "_law_row" sRow) rfl
  obtain ⟨fd9, F9⟩ := c.def_ 9 (d := dd "_law_joints" sJoints) rfl
  obtain ⟨fd10, F10⟩ := c.def_ 10 (d := dd "_law_counts" sCounts) rfl
  obtain ⟨fd11, F11⟩ := c.def_ 11 (d := dd "_law_after" sAfter) rfl
  obtain ⟨fd12, F12⟩ := c.def_ 12 (d := dd "_law_is_label" sIsLabel) rfl
  obtain ⟨fd13, F13⟩ := c.def_ 13 (d := dd "_law_rank" sRank) rfl
  obtain ⟨fd14, F14⟩ := c.def_ 14 (d := dd "_law_word" sWord) rfl
  obtain ⟨fd15, F15⟩ := c.def_ 15 (d := dd "_law_kind" sKind) rfl
  obtain ⟨fd16, F16⟩ := c.def_ 16 (d := dd "_law_bad_row" sBadRow) rfl
  obtain ⟨fd17, F17⟩ := c.def_ 17 (d := dd "_law_bad_label" sBadLabel) rfl
  obtain ⟨fd18, F18⟩ := c.def_ 18 (d := dd "law" sLaw) rfl
  have glo : ∀ (i : Nat) (x : Str), TC.fa[i]? = some (.glo x) → mg x = some (.ref (He.ga K x)) := fun i x e => He.glo_ok X G (c.fact i (f := .glo x) e)
  have free : ∀ (i : Nat) (x : Str), TC.fa[i]? = some (.free x) → mg x = none := fun i x e => He.free_ok X G (c.fact i (f := .free x) e)
  obtain ⟨t_MOST_OF_ROW, g_MOST_OF_ROW⟩ := He.int_ok X G (c.fact 42 (f := .int "MOST_OF_ROW" 10) rfl)
  obtain ⟨t_HIGHEST_OF_ROW, g_HIGHEST_OF_ROW⟩ := He.int_ok X G (c.fact 43 (f := .int "HIGHEST_OF_ROW" 12) rfl)
  obtain ⟨t_HIGHEST_END, g_HIGHEST_END⟩ := He.int_ok X G (c.fact 44 (f := .int "HIGHEST_END" 120) rfl)
  obtain ⟨xE_NoRow, xK_NoRow, xB_NoRow, xT_NoRow⟩ := He.exc_ok (c.fact 45 (f := .exc "NoRow") rfl)
  have XT_NoRow : XTxt K mg "NoRow" (He.ga K "NoRow") := ⟨(glo 8 "NoRow" rfl), xE_NoRow, xK_NoRow, xB_NoRow, xT_NoRow⟩
  obtain ⟨xE_NoSize, xK_NoSize, xB_NoSize, xT_NoSize⟩ := He.exc_ok (c.fact 46 (f := .exc "NoSize") rfl)
  have XT_NoSize : XTxt K mg "NoSize" (He.ga K "NoSize") := ⟨(glo 2 "NoSize" rfl), xE_NoSize, xK_NoSize, xB_NoSize, xT_NoSize⟩
  obtain ⟨m1, mm⟩ := He.ba sx.more
  obtain ⟨m2, mm⟩ := He.ba mm
  obtain ⟨m3, mm⟩ := He.ba mm
  obtain ⟨m4, mm⟩ := He.ba mm
  obtain ⟨m5, mm⟩ := He.ba mm
  obtain ⟨m6, m7⟩ := He.ba mm
  have kdR := excAllF_ok m1
  have kdS := excAllF_ok m2
  have kdP := excAllF_ok m3
  have hxR := of_decide_eq_true m5
  have hxS := of_decide_eq_true m6
  have hxP := of_decide_eq_true m7
  obtain ⟨iE, iK, iB, iT⟩ := excI_ok m4
  have XP : ITxt K mg "NoPlace" (He.ga K "NoPlace") := ⟨(glo 20 "NoPlace" rfl), iE, iK, iB, iT⟩
  have WT : WTxt K mg := ⟨fun i x e => ?_, (glo 0 "TurnError" rfl), (free 54 "ValueError" rfl), (free 55 "ZeroDivisionError" rfl), (free 56 "KeyError" rfl), (free 57 "IndexError" rfl), (free 58 "LookupError" rfl), (free 47 "isinstance" rfl)⟩
  rotate_left
  · match i, e with
    | 0, e => cases e; exact glo 16 "Empty" rfl
    | 1, e => cases e; exact glo 14 "NoDeed" rfl
    | 2, e => cases e; exact glo 12 "NoHalf" rfl
    | 3, e => cases e; exact glo 13 "NoLinking" rfl
    | 4, e => cases e; exact glo 7 "NoNet" rfl
    | 5, e => cases e; exact glo 1 "NoNumber" rfl
    | 6, e => cases e; exact glo 3 "NoOffset" rfl
    | 7, e => cases e; exact glo 15 "NoQuestion" rfl
    | 8, e => cases e; exact glo 8 "NoRow" rfl
    | 9, e => cases e; exact glo 2 "NoSize" rfl
    | 10, e => cases e; exact glo 9 "NoStanding" rfl
    | 11, e => cases e; exact glo 5 "NoTable" rfl
    | 12, e => cases e; exact glo 18 "NoText" rfl
    | 13, e => cases e; exact glo 17 "NotParted" rfl
    | 14, e => cases e; exact glo 10 "NoTree" rfl
    | 15, e => cases e; exact glo 4 "NoTriple" rfl
    | 16, e => cases e; exact glo 11 "NoWay" rfl
    | 17, e => cases e; exact glo 6 "TooWide" rfl
    | 18, e => cases e; exact glo 21 "ByNought" rfl
    | 19, e => cases e; exact glo 19 "NoName" rfl
    | 20, e => cases e; exact glo 20 "NoPlace" rfl
    | 21, e => cases e; exact glo 22 "NothingDone" rfl
    | n + 22, e =>
      have z : ([] : List Str)[n]? = some x := e
      cases z
  have e := hfa.symm.trans (glo 41 "law" rfl)
  cases e
  have b0 := FunD.bindsN (ps := ["thing"]) F0 fun _ _ _ _ _ _ us hl => match us, hl with | [_], _ => rfl
  have b3 := FunD.bindsN (ps := ["row", "to"]) F3 fun _ _ _ _ _ _ us hl => match us, hl with | [_, _], _ => rfl
  have b4 := FunD.bindsN (ps := ["one", "other"]) F4 fun _ _ _ _ _ _ us hl => match us, hl with | [_, _], _ => rfl
  have b5 := FunD.bindsN (ps := ["row", "to"]) F5 fun _ _ _ _ _ _ us hl => match us, hl with | [_, _], _ => rfl
  have b6 := FunD.bindsN (ps := ["_law_script"]) F6 fun _ _ _ _ _ _ us hl => match us, hl with | [_], _ => rfl
  have b7 := FunD.bindsN (ps := ["_law_pen_here", "_law_many"]) F7 fun _ _ _ _ _ _ us hl => match us, hl with | [_, _], _ => rfl
  have b8 := FunD.bindsN (ps := ["_law_pen_here", "_law_many", "_law_great"]) F8 fun _ _ _ _ _ _ us hl => match us, hl with | [_, _, _], _ => rfl
  have b9 := FunD.bindsN (ps := ["_law_one", "_law_other"]) F9 fun _ _ _ _ _ _ us hl => match us, hl with | [_, _], _ => rfl
  have b10 := FunD.bindsN (ps := ["_law_row_here"]) F10 fun _ _ _ _ _ _ us hl => match us, hl with | [_], _ => rfl
  have b11 := FunD.bindsN (ps := ["_law_row_here", "_law_size"]) F11 fun _ _ _ _ _ _ us hl => match us, hl with | [_, _], _ => rfl
  have b12 := FunD.bindsN (ps := ["_law_row_here", "_law_label", "_law_size"]) F12 fun _ _ _ _ _ _ us hl => match us, hl with | [_, _, _], _ => rfl
  have b13 := FunD.bindsN (ps := ["_law_row_here", "_law_label", "_law_ways_on"]) F13 fun _ _ _ _ _ _ us hl => match us, hl with | [_, _, _], _ => rfl
  have b14 := FunD.bindsN (ps := ["_law_e"]) F14 fun _ _ _ _ _ _ us hl => match us, hl with | [_], _ => rfl
  have b15 := FunD.bindsN (ps := ["_law_call"]) F15 fun _ _ _ _ _ _ us hl => match us, hl with | [_], _ => rfl
  have b16 := FunD.bindsN (ps := ["_law_pen_here", "_law_row_here"]) F16 fun _ _ _ _ _ _ us hl => match us, hl with | [_, _], _ => rfl
  have b17 := FunD.bindsN (ps := ["_law_pen_here", "_law_label"]) F17 fun _ _ _ _ _ _ us hl => match us, hl with | [_, _], _ => rfl
  have b := FunD.bindsA (ps := ["_law_script"]) F18 fun _ _ _ _ _ _ us hl => match us, hl with | [_], _ => rfl
  refine ⟨fd18, fun s v => b s [v] rfl, fun base _ _ TB => ?_⟩
  have GW : FnOk P w K mg base CX0 1 _ fd0 ["thing"] (spWhole K) := ok_whole F0 (free 47 "isinstance" rfl) (free 48 "int" rfl) (free 49 "bool" rfl)
  have GN : FnOk P w K mg base (L2.CX P w) 2 _ fd3 ["row", "to"] (spNeedRow K (He.ga K "NoRow") (He.ga K "NoSize")) := ok_needRow F3 GW b0 F0.kp (glo 23 "is_whole" rfl) XT_NoRow XT_NoSize g_MOST_OF_ROW g_HIGHEST_OF_ROW g_HIGHEST_END (free 47 "isinstance" rfl) (free 51 "list" rfl) (free 53 "len" rfl)
  have GE : FnOk P w K mg base CX0 1 _ fd4 ["one", "other"] spEnds := ok_ends F4 (free 51 "list" rfl) (free 52 "range" rfl) (free 50 "abs" rfl)
  have GY : FnOk P w K mg base CX0 2 _ fd5 ["row", "to"] spWays := ok_ways F5 GE b4 F4.kp (glo 27 "ends_of" rfl)
  have GA : FnOk P w K mg base (L2.CX P w) 3 _ fd1 ["row", "place", "to"] (spLabelAt K (He.ga K "NoRow") (He.ga K "NoSize") (He.ga K "NoPlace")) := ok_labelAt F1 GN b3 F3.kp (glo 26 "need_row" rfl) GY b5 F5.kp (glo 28 "ways_to" rfl) GW b0 F0.kp (glo 23 "is_whole" rfl) GE b4 F4.kp (glo 27 "ends_of" rfl) XP (free 62 "enumerate" rfl) (free 61 "tuple" rfl)
  have GO : FnOk P w K mg base (L2.CX P w) 3 _ fd2 ["row", "label", "to"] (spPlaceOf K (He.ga K "NoRow") (He.ga K "NoSize") (He.ga K "NoPlace")) := ok_placeOf F2 GN b3 F3.kp (glo 26 "need_row" rfl) GY b5 F5.kp (glo 28 "ways_to" rfl) GW b0 F0.kp (glo 23 "is_whole" rfl) GE b4 F4.kp (glo 27 "ends_of" rfl) XP (free 62 "enumerate" rfl) (free 61 "tuple" rfl) (free 47 "isinstance" rfl) (free 53 "len" rfl) (free 59 "sum" rfl)
  have GP : FnOk P w K mg base CX0 1 _ fd6 ["_law_script"] (spPen K) := ok_pen F6 (free 51 "list" rfl)
  have GD : FnOk P w K mg base CX0 1 _ fd7 ["_law_pen_here", "_law_many"] spDraw := ok_draw F7 (free 53 "len" rfl)
  have GR : FnOk P w K mg base CX0 2 _ fd8 ["_law_pen_here", "_law_many", "_law_great"] spRow := ok_row F8 GD b7 F7.kp (glo 30 "_law_draw" rfl) (free 52 "range" rfl)
  have GJ : FnOk P w K mg base CX0 1 _ fd9 ["_law_one", "_law_other"] spEnds := ok_joints F9 (free 51 "list" rfl) (free 52 "range" rfl) (free 50 "abs" rfl)
  have GC : FnOk P w K mg base CX0 2 _ fd10 ["_law_row_here"] spCountsL := ok_countsL F10 GJ b9 F9.kp (glo 32 "_law_joints" rfl)
  have GF : FnOk P w K mg base CX0 2 _ fd11 ["_law_row_here", "_law_size"] spAfter := ok_after F11 GJ b9 F9.kp (glo 32 "_law_joints" rfl)
  have GI : FnOk P w K mg base CX0 2 _ fd12 ["_law_row_here", "_law_label", "_law_size"] (spIsLabel K) := ok_isLabel F12 GJ b9 F9.kp (glo 32 "_law_joints" rfl) (free 47 "isinstance" rfl) (free 61 "tuple" rfl) (free 53 "len" rfl) (free 48 "int" rfl) (free 49 "bool" rfl) (free 63 "zip" rfl)
  have GRK : FnOk P w K mg base CX0 2 _ fd13 ["_law_row_here", "_law_label", "_law_ways_on"] spRank := ok_rank F13 GJ b9 F9.kp (glo 32 "_law_joints" rfl) (free 62 "enumerate" rfl) (free 59 "sum" rfl)
  have GB : FnOk P w K mg base CX0 2 _ fd16 ["_law_pen_here", "_law_row_here"] (spBadRow K) := ok_badRow F16 GD b7 F7.kp (glo 30 "_law_draw" rfl) (free 53 "len" rfl) (free 61 "tuple" rfl)
  have GL : FnOk P w K mg base CX0 2 _ fd17 ["_law_pen_here", "_law_label"] (spBadLabel K) := ok_badLabel F17 GD b7 F7.kp (glo 30 "_law_draw" rfl) (free 53 "len" rfl) (free 51 "list" rfl)
  have GWD : FnOk P w K mg base CX0 1 _ fd14 ["_law_e"] (spWord K) := ok_word F14 WT
  exact ok_law F18 ⟨GP, b6, F6.kp, (glo 29 "_law_pen" rfl), GD, b7, F7.kp, (glo 30 "_law_draw" rfl), GR, b8, F8.kp, (glo 31 "_law_row" rfl), GC, b10, F10.kp, (glo 33 "_law_counts" rfl), GB, b16, F16.kp, (glo 39 "_law_bad_row" rfl), GL, b17, F17.kp, (glo 40 "_law_bad_label" rfl), GF, b11, F11.kp, (glo 34 "_law_after" rfl), GI, b12, F12.kp, (glo 35 "_law_is_label" rfl), GRK, b13, F13.kp, (glo 36 "_law_rank" rfl), F1, GA, (glo 24 "label_at" rfl), F2, GO, (glo 25 "place_of" rfl), F15, b15, (glo 38 "_law_kind" rfl), GWD, b14, F14.kp, (glo 37 "_law_word" rfl), ⟨(glo 0 "TurnError" rfl), (glo 20 "NoPlace" rfl)⟩, kdR, hxR, kdS, hxS, kdP, hxP, (free 52 "range" rfl), (free 51 "list" rfl), (free 60 "sorted" rfl), (free 53 "len" rfl), (free 59 "sum" rfl)⟩ TB
end TC
open PySem PySem.W PySem.Calls PyProof.Rows
set_option maxHeartbeats 0 in
theorem PySem.Challenge.cw_turncouple_k39_places_of_labels_holds : PySem.Challenge.rw_turncouple_k39_places_of_labels.Holds := by
  w_on; o_law
  refine HandSHeadRun.head_any (r := OpenLaw.row PySem.Challenge.rw_turncouple_k39_places_of_labels) (q := view (OpenLaw.row PySem.Challenge.rw_turncouple_k39_places_of_labels).prog [48]) (H := TC.hk) (ob := TC.ob) (M := 30000) (loose := TC.loose) (d := HandSHeadRun.topDef (OpenLaw.row PySem.Challenge.rw_turncouple_k39_places_of_labels).prog 48) (kwd := []) TC.ob_eq
    (by kernel_rfl) (fun s => by kernel_rfl) TC.run (by kernel_rfl) (by kernel_rfl) (by kernel_rfl) (by rfl) (by first | assumption | decide +kernel) (by decide +kernel) ⟨rfl, rfl, rfl, rfl, rfl, by decide +kernel⟩ ?hw ?hc
  case hw => w_witness2
  case hc =>
    refine TCX.walk_ofG (l := PySem.Challenge.rw_turncouple_k39_places_of_labels) (n := 63) (k := 6) (x := "_law_script") (CX := fun _ => L2.CX0) rfl (by decide) (by kernel_rfl) ⟨rfl, by decide, by decide⟩ ?F (fun _ _ _ _ _ z => z)
    intro w mg fa h Y G hmg0
    obtain ⟨K, KX, sx⟩ := Y
    have hmg : mg ("law" : PySem.Str) = some (.ref fa) := by
      have e : (HandSHeadRun.topDef (OpenLaw.row PySem.Challenge.rw_turncouple_k39_places_of_labels).prog 48).name = ("law" : PySem.Str) := by kernel_rfl
      rw [← e]
      exact hmg0
    obtain ⟨fd, hb, hF⟩ := TC.facts (P := (PySem.Challenge.rw_turncouple_k39_places_of_labels).prog) (w := w) KX G hmg sx
    refine ⟨K, KX, fd, [He.cT K ("law", none)], TC.spLaw K, fun p hp => ?_, fun p hp => ?_, fun p hp => ?_, hb, fun H a ns hl hT hS => ⟨a, ns, rfl, hS, hl, hT _ (List.mem_singleton.mpr rfl), fun _ => rfl⟩, fun base h1 h2 h3 => hF base h1 h2 (h3 _ (List.mem_singleton.mpr rfl))⟩
    · rw [List.mem_singleton.mp hp]
      exact sx.empty _ (List.mem_singleton.mpr rfl)
    · rw [List.mem_singleton.mp hp]
      exact sx.out _ (List.mem_singleton.mpr rfl)
    · rw [List.mem_singleton.mp hp]
      exact PySem.W.codeHd_of_K KX (sx.hd _ (List.mem_singleton.mpr rfl))
