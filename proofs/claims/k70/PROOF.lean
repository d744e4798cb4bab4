import PyProof.Rows.All
import Wide.All
import OpenK.AllK
import Wide.FinOn
import HandS.ForMost
import HandS.Wide
import HandS.Style
import HandS.Codes
import HandS.Conv
import HandS.IsInst
import HandS.Zip
import HandS.Walk
import HandS.SetFor
import HandS.Strs
import HandS.NoneIn
import HandS.Deep
import HandS.TupLe
import KE.SortData
import PySem.Challenge.RW_bothdoors_k70_whole_great_tapes_judged
set_option Elab.async false
set_option linter.all false
set_option maxRecDepth 100000
set_option maxHeartbeats 2000000
namespace Bd
open PySem PySem.Spec PyProof.Rows L2 HT
section
variable {prog : Program} {w : World} {A : Around} {E : Value → Shared → Prop} {s : Shared}
theorem sliceApplied_two {sl : Addr} {i : Int} {tk : Tok} {Q : Int × Int × Nat → Shared → Prop} (hs : s.heap.IsSliceOf sl .none .none (.int i tk)) (hi : i = 1 ∨ i = -1)
    (h : Q (if i = 1 then (0, 1, 2) else (1, -1, 2)) s) : wpAny (model prog w) A (Builtin.Slice.sliceApplied (.ref sl) (pure ((2 : Nat) : Int))) Q E s := by
  obtain ⟨os, hos, hcs, hds⟩ := id hs
  unfold Builtin.Slice.sliceApplied Builtin.Slice.sliceFields
  refine wpAny_bind (wpAny_bind (wpAny_field hos hds (x := .none) rfl (wpAny_bind (wpAny_field hos hds (x := .none) rfl (wpAny_bind (wpAny_field hos hds (x := .int i tk) rfl (wpAny_pure ?_)))))))
  refine wpAny_bind (slicePart_int ?_)
  rcases hi with rfl | rfl
  · show wpAny _ _ (if ((1 : Int) == 0) = true then _ else _) _ _ s
    rw [if_neg (by decide)]
    refine wpAny_bind (slicePart_none (wpAny_bind (slicePart_none (wpAny_bind (wpAny_pure ?_)))))
    exact wpAny_pure h
  · show wpAny _ _ (if ((-1 : Int) == 0) = true then _ else _) _ _ s
    rw [if_neg (by decide)]
    refine wpAny_bind (slicePart_none (wpAny_bind (slicePart_none (wpAny_bind (wpAny_pure ?_)))))
    exact wpAny_pure h
theorem getItem_pair_step {t sl : Addr} {x y : Value} {i : Int} {tk : Tok} {Q : Value → Shared → Prop} (ht : IsTup s.heap t #[x, y]) (hs : s.heap.IsSliceOf sl .none .none (.int i tk)) (hi : i = 1 ∨ i = -1)
    (h1 : i = 1 → Q (.ref t) s) (h2 : i = -1 → Q (.ref s.heap.objs.size) { s with heap := s.heap.push { cls := .type "tuple", data := .seq #[y, x] } }) :
    wpAny (model prog w) A (getItem (.ref t) (.ref sl)) Q E s := by
  have T : s.TypeIs (.ref sl) "slice" := let ⟨o, a, b, _⟩ := hs; ⟨o, a, b⟩
  unfold getItem; try with_reducible refine wpAny_holding ?_
  first | refine wpAny_bind (wpAny_pure ?_) | (skip; skip)
  refine wpAny_bind (wpAny_sequenceKey ht.typeIs (by decide) (wpAny_bind (wpAny_callSpecial?_slot (name := Str.ofString "__getitem__") ht.typeIs PyProof.Rows.slot_tuple_getitem (wpAny_call_entry PyProof.Rows.slot_tuple_getitem ht.typeIs entry_tuple_getitem ?_ (args_tuple_getitem _ _)))))
  show wpAny _ _ (Builtin.Tuple.tupleItemsOf (.ref t) >>= fun z => _) _ _ s
  refine wpAny_bind (tupleItemsOf_ ht (wpAny_bind (wpAny_typeOf T ?_)))
  rw [if_pos (by decide)]; refine wpAny_bind (sliceApplied_two hs hi ?_)
  rcases hi with rfl | rfl
  · rw [if_pos rfl]
    show wpAny _ _ (if (((0 : Int) == 0 && (1 : Int) == 1 && (2 : Nat) == 2)) = true then _ else _) _ _ s
    rw [if_pos (by decide)]; refine wpAny_bind ?_
    show wpAny _ _ (typeOf (.ref t) >>= fun z => pure (z == .type "tuple")) _ _ s
    refine wpAny_bind (wpAny_typeOf ht.typeIs (wpAny_pure ?_)); first | rw [if_pos (by decide)] | simp only [beq_self_eq_true, if_true]
    have h := h1 rfl
    first | exact wpAny_bind (wpAny_rule (wpAny_pure ⟨_, rfl, wpAny_pure h⟩)) | exact wpAny_bind (wpAny_rule (wpAny_bind (wpAny_pure (wpAny_pure ⟨_, rfl, wpAny_pure h⟩))))
  · rw [if_neg (by decide)]
    show wpAny _ _ (if (((1 : Int) == 0 && (-1 : Int) == 1 && (2 : Nat) == 2)) = true then _ else _) _ _ s
    rw [if_neg (by decide)]
    have e : ((List.range 2).filterMap fun (m : Nat) => (#[x, y] : Array Value)[((1 : Int) + (m : Int) * (-1)).toNat]?).toArray = #[y, x] := by rfl
    have z : sizeOk (.seq (#[y, x] : Array Value)) := by show (2 : Nat) ≤ sizeLine; decide
    rw [e]; have h := h2 rfl
    first | exact wpAny_bind (m := Builtin.Tuple.tupleExact _) (wpAny_newObj_type (wpAny_pure ⟨_, rfl, wpAny_pure h⟩) z) | exact wpAny_bind (m := Builtin.Tuple.tupleExact _) (wpAny_newObj_type (wpAny_bind (wpAny_pure (wpAny_pure ⟨_, rfl, wpAny_pure h⟩))) z) | exact wpAny_bind (wpAny_bind (m := Builtin.Tuple.tupleExact _) (wpAny_newObj_type (wpAny_pure (wpAny_pure ⟨_, rfl, wpAny_pure h⟩)) z)) | exact wpAny_bind (wpAny_bind (m := Builtin.Tuple.tupleExact _) (wpAny_newObj_type (wpAny_pure ⟨_, rfl, wpAny_pure h⟩) z))
end
section
variable {X : Cx}
/-! ### own rules -/
theorem op_powW : OpR X (binaryOp .Pow) (rI (fun i j => 0 ≤ j ∧ (Builtin.Int.intBits i : Int) * j ≤ 2 ^ 27) fun i j => .int (i ^ j.toNat)) :=
  opI fun _ _ _ _ _ _ _ hc q => pow_int hc.1 hc.2 q
/-- o[i] of a list, read for o[i] op= e -/
def rGetL (K : PySem.W.Frag) : V → V → Hp → VK → Prop := fun o i H Q => ∃ p xs k v, o = .ref p ∧ i = .int k ∧ 0 ≤ k ∧ SqL K H p xs ∧ atI xs k = some v ∧ Q v H
theorem get_list : PGet X (rGetL X.K) := by
  intro pins s σ H o i ov iv Q I ro ri h
  obtain ⟨p, xs, k, z, rfl, rfl, h0, hq, he, q⟩ := h
  cases ro
  obtain ⟨t, rfl⟩ := ri
  obtain ⟨its, r, pl, hz⟩ := I.list hq
  obtain ⟨j, h1, h2, h3, h4, h5⟩ := atI_get he
  obtain ⟨w, ew, rw'⟩ := r.get h2
  have hl := r.length
  have hn := line63
  have fin : EP X pins σ Q w s := ⟨z, H, I, rw', q⟩
  have hj : k.toNat = j := by
    rw [seqIndex_of h0 h5] at h1
    exact Option.some.inj h1
  exact wpAny_getItem_list pl.isList h0 (by omega) (by rw [hj]; simpa using ew) fin
/-- t[::e], t a pair, e 1 or -1 -/
def tStepT (K : PySem.W.Frag) (te ts : TE) : TE := fun σ H Q => te σ H fun x H1 => ts σ H1 fun y H2 => ∃ i a u v, y = .int i ∧ x = .ref a ∧ SqT K H2 a [u, v] ∧ (i = 1 ∨ i = -1) ∧ (i = 1 → Q (.ref a) H2) ∧ (i = -1 → ∀ p, H2 p = none → Q (.ref p) (upd H2 p (.tup [v, u])))
theorem pe_stepT {e st : Expr} {te ts : TE} {p3 pos : Pos} (he : PE X e te) (hst : PE X st ts) : PE X (.Subscript e (.Slice none none (some st) p3) pos) (tStepT X.K te ts) := by
  refine ⟨fun pins s σ H Q I h => ?_⟩
  refine Subscript_ (thn (he.run pins s σ H _ I h) fun v s1 ⟨x, H1, I1, r1, q⟩ => ?_)
  refine wpAny_Slice (thn (po_none.run pins s1 σ H1 (fun o H2 => o = none ∧ H2 = H1) I1 ⟨rfl, rfl⟩) fun vl s2 ⟨l, H2, I2, pl, el, e2⟩ => ?_)
  subst el e2
  refine thn (po_none.run pins s2 σ H2 (fun o H3 => o = none ∧ H3 = H2) I2 ⟨rfl, rfl⟩) fun vu s3 ⟨u, H3, I3, pu, eu, e3⟩ => ?_
  subst eu e3
  rw [evalPart_some]
  refine thn (hst.run pins s3 σ H3 _ I3 q) fun vs s4 ⟨y, H4, I4, r4, i, a, ux, vx, ey, ex, hx, hi, q1, q2⟩ => ?_
  subst ey ex
  cases r1
  obtain ⟨tk, rfl⟩ := r4
  cases pl
  cases pu
  have I5 : Inv X pins σ H4 { s4 with heap := s4.heap.push { cls := .type "slice", data := .fields #[.none, .none, .int i tk] } } := I4.kept (t' := s4.toks) fun b ob q => Heap.get?_push_of_some _ q
  obtain ⟨its, r, ht, hz⟩ := I5.tuple hx
  obtain ⟨wu, wv, rfl, ru, rv⟩ : ∃ wu wv, its = [wu, wv] ∧ RelV ux wu ∧ RelV vx wv := by
    cases r with
    | cons r1 r2 =>
      cases r2 with
      | cons r3 r4 =>
        cases r4
        exact ⟨_, _, rfl, r1, r3⟩
  show wpAny (model X.prog X.w) X.A (subscriptTail e (.Slice none none (some st) p3) (.ref a) (.ref s4.heap.objs.size)) (EP X pins σ Q) X.xe { s4 with heap := s4.heap.push { cls := .type "slice", data := .fields #[.none, .none, .int i tk] } }
  refine tail_any (ops := [.ref a, .ref s4.heap.objs.size]) ht.typeIs (PyProof.Rows.slot_tuple_getitem.lookup) ?_ (by with_unfolding_all rfl)
  refine getItem_pair_step (x := wu) (y := wv) ht (Heap.IsSliceOf.new _ _ _ _) hi (fun e1 => ?_) fun e1 => ?_
  · exact ⟨.ref _, _, I5, rfl, q1 e1⟩
  · refine ⟨.ref _, _, I5.laid (t' := s4.toks) (o := .tup [vx, ux]) (fun b ob q => Heap.get?_push_of_some _ q) (Nat.le_refl _) ?_, rfl, q2 e1 _ (I5.hok.fresh (Nat.le_refl _))⟩
    exact ⟨(by show 2 ≤ sizeLine; decide), _, .cons rv (.cons ru .nil), IsTup.new _ _⟩
end
/-! ### own calls -/
/-- a def of the module, by its promise -/
structure Ca (P : Program) (w : World) (K : PySem.W.Frag) (mg : Str → Option Value) (base : Heap) (k : Nat) (x : Str) (sp : Sp) : Prop where
  ex : ∃ (f : Addr) (fd : FuncData) (ps : List Str), FnOk P w K mg base CX0 k f fd ps sp ∧ mg x = some (.ref f) ∧ PySem.W.keepIn K (.ref f) = true ∧ Binds K fd ps []
/-- .. called by names alone -/
structure Ck (P : Program) (w : World) (K : PySem.W.Frag) (mg : Str → Option Value) (base : Heap) (k : Nat) (x : Str) (ks : List Str) (gV : List V → List V) (sp : Sp) : Prop where
  ex : ∃ (f : Addr) (fd : FuncData) (ps : List Str) (g : List Value → List Value), FnOk P w K mg base CX0 k f fd ps sp ∧ mg x = some (.ref f) ∧ PySem.W.keepIn K (.ref f) = true ∧
    (∀ (s : Shared) (ws : List Value), (g ws).length = ps.length → BindsTo s fd ⟨[], ks.zip ws⟩ (ps.zip (g ws))) ∧ ∀ {zs : List V} {ws : List Value}, Vals zs ws → Vals (gV zs) (g ws)
def tKw (sp : Sp) (gV : List V → List V) (tk : TA) : TE := fun σ H Q => tk σ H fun zs H1 => sp (gV zs) H1 Q E0
section
variable {X : Cx} {k j : Nat} {x : Str} {ks : List Str} {gV : List V → List V} {sp : Sp} {p pos : Pos} {e : Expr} {es : List Expr} {kws : List Keyword} {t tk : TA}
theorem pe_u (c : Ca X.prog X.w X.K X.mg X.base k x sp) (hr : Room j X.A) (hk : k ≤ j) (hg : Gl X x) (ha : PA X (e :: es) t)
    (hd : (x == ("__debug__" : Str)) = false := by decide) (h1 : starEach (e :: es) X.env = (false, eval e X.env) :: starEach es X.env := by rfl) (h2 : (backTo pos (starEach es X.env)).any (·.1) = false := by rfl) :
    PE X (.Call (.Name x p) (e :: es) [] pos) (tCall sp [] E0 t) := by
  obtain ⟨f, fd, ps, F, hm, kp, b⟩ := c.ex
  exact pe_call F (hr.mono hk) hg hm kp b .nil pass0 ha hd h1 h2
theorem pe_kw (c : Ck X.prog X.w X.K X.mg X.base k x ks gV sp) (hr : Room j X.A) (hk : k ≤ j) (hg : Gl X x) (ha : PK X kws tk)
    (h1 : (backToKw pos (keywordEach kws X.env)).all (·.1.isSome) = true := by rfl) (h2 : (backToKw pos (keywordEach kws X.env)).filterMap (·.1) = ks := by rfl)
    (hd : (x == ("__debug__" : Str)) = false := by decide) (h3 : ((backTo pos (starEach [] X.env)).any (·.1) || (backToKw pos (keywordEach kws X.env)).any (·.1.isNone)) = false := by rfl) :
    PE X (.Call (.Name x p) [] kws pos) (tKw sp gV tk) := by
  obtain ⟨f, fd, ps, g, F, hm, kp, b, br⟩ := c.ex
  refine ⟨fun pins s σ H Q I h => ?_⟩
  refine wpAny_Call_Name_kw (ld_glob I hg hm ?_ hd)
  refine PySem.W.callWith_KW0 (h₀ := X.base) I.ok.mod.kin kp h1 (thn (ha.run pos pins s σ H _ I h) fun ws s2 ⟨zs, H2, I2, rz, q2⟩ => ⟨I2.kIn, ?_⟩) h3
  rw [h2]
  have rg := br rz
  have hl : (g ws).length = ps.length := by rw [← rg.length]; exact F.len _ _ _ _ q2
  show wpAny _ _ (call (.ref f) [] (ks.zip ws)) _ _ _
  refine wpAny_call (codeAny_mono (F.run X.A X.stack s2 H2 ⟨[], ks.zip ws⟩ (g ws) (gV zs) Q E0 (hr.mono hk) I2.env0 (b s2 ws hl) rg q2) fun r s' hq => ?_)
  cases r with
  | error e => exact hq.elim
  | ok fl =>
    cases fl with
    | ret u => exact I2.after hq
    | next => exact hq.elim
    | brk => exact hq.elim
    | cont => exact hq.elim
end
/-- a statement, then the rest, with what holds between them -/
def tMid (t u : TS) : TS := fun D σ H => ∃ M : L2.St → Hp → Prop, t { D with nx := M } σ H ∧ ∀ σ' H', M σ' H' → u D σ' H'
theorem pss_mid {X : Cx} {st : Stmt} {rest : List Stmt} {t u : TS} (a : PS X st t) (b : PSs X rest u) : PSs X (st :: rest) (tMid t u) :=
  ⟨fun pins s σ H D I h => by
    obtain ⟨M, hm, hn⟩ := h
    refine wpAny_execs_cons (thn (a.run pins s σ H { D with nx := M } I hm) fun f s1 q => ?_)
    cases f with
    | next =>
      obtain ⟨σ1, H1, I1, q1⟩ := q
      exact b.run pins s1 σ1 H1 D I1 (hn σ1 H1 q1)
    | ret v => exact q
    | brk => exact q
    | cont => exact q⟩
/-! ### rules whose reading names the written part K alone (within comprehensions) -/
theorem opK {X : Cx} {f : Value → Value → Sem Value} (r : R2) (h : OpR X f r) : OpR X f r := h
theorem ixK {X : Cx} (r : R2) (h : IxR X r) : IxR X r := h
theorem clK {X : Cx} {f : Value} (r : List V → Hp → VK → Prop) (h : CallR X f r) : CallR X f r := h
theorem slK {X : Cx} (r : V → Option Int → Option Int → Hp → VK → Prop) (h : SlR X r) : SlR X r := h
def rLenK (K : PySem.W.Frag) : List V → Hp → VK → Prop := fun as H Q => ∃ p ys, as = [.ref p] ∧ (SqL K H p ys ∨ SqT K H p ys) ∧ Q (.int ys.length) H
def rListK (K : PySem.W.Frag) : List V → Hp → VK → Prop := fun as H Q => ∃ p ys, as = [.ref p] ∧ (SqL K H p ys ∨ SqT K H p ys) ∧ ∀ l, H l = none → Q (.ref l) (upd H l (.lst ys))
theorem teK {X : Cx} {e : Expr} (t : TE) (h : PE X e t) : PE X e t := h
end Bd
namespace Bd
open PySem PySem.Spec PyProof.Rows L2 HT
theorem ifT {c A B : Prop} [Decidable c] (hc : c) (h : A) : if c then A else B := by rw [if_pos hc]; exact h
theorem ifF {c A B : Prop} [Decidable c] (hc : ¬ c) (h : B) : if c then A else B := by rw [if_neg hc]; exact h
/-! ### heaps without some addresses -/
def hid (S : List Addr) (H : Hp) : Hp := fun b => if b ∈ S then none else H b
theorem hid_of {S : List Addr} {H : Hp} {b : Addr} {o : HO} (h : H b = some o) (n : b ∉ S) : hid S H b = some o := by
  unfold hid; rw [if_neg n]; exact h
theorem of_hid {S : List Addr} {H : Hp} {b : Addr} {o : HO} (h : hid S H b = some o) : H b = some o ∧ b ∉ S := by
  unfold hid at h
  by_cases n : b ∈ S
  · rw [if_pos n] at h; cases h
  · rw [if_neg n] at h; exact ⟨h, n⟩
theorem hid_none {S : List Addr} {H : Hp} {b : Addr} (h : H b = none) : hid S H b = none := by
  unfold hid; split <;> first | rfl | exact h
/-- kept but for the addresses of S -/
def Kp (S : List Addr) (H H' : Hp) : Prop := Same (hid S H) (hid S H')
theorem Kp.refl {S : List Addr} {H : Hp} : Kp S H H := fun _ _ h => h
theorem Kp.trans {S : List Addr} {H H1 H2 : Hp} (a : Kp S H H1) (b : Kp S H1 H2) : Kp S H H2 := fun x o h => b x o (a x o h)
theorem Kp.at {S : List Addr} {H H1 : Hp} (k : Kp S H H1) {b : Addr} {o : HO} (h : H b = some o) (n : b ∉ S) : H1 b = some o := (of_hid (k b o (hid_of h n))).1
theorem Kp.wr {S : List Addr} {H H1 : Hp} (k : Kp S H H1) {a : Addr} {o : HO} (n : a ∈ S) : Kp S H (upd H1 a o) := fun b u h => by
  obtain ⟨h1, h2⟩ := of_hid (k b u h)
  exact hid_of (by rw [upd_ne (fun (e : b = a) => h2 (by rw [e]; exact n))]; exact h1) h2
/-- something that H does not know is laid or written -/
theorem Kp.new {S : List Addr} {H H1 : Hp} (k : Kp S H H1) {p : Addr} {o : HO} (n : hid S H p = none) : Kp S H (upd H1 p o) := fun b u h => by
  obtain ⟨h1, h2⟩ := of_hid (k b u h)
  refine hid_of ?_ h2
  rw [upd_ne (fun e => by rw [e, n] at h; cases h)]
  exact h1
theorem Kp.same {S : List Addr} {H H1 : Hp} (k : Same H H1) : Kp S H H1 := fun b u h => by
  obtain ⟨h1, h2⟩ := of_hid h
  exact hid_of (k b u h1) h2
theorem Kp.sub {S S' : List Addr} {H H1 : Hp} (k : Kp S H H1) (h : ∀ b ∈ S, b ∉ S' → ∀ o, H b = some o → H1 b = some o) : Kp S' H H1 := fun b u e => by
  obtain ⟨h1, h2⟩ := of_hid e
  by_cases n : b ∈ S
  · exact hid_of (h b n h2 u h1) h2
  · exact hid_of (k.at h1 n) h2
/-- addresses that H does not know may be dropped from S -/
theorem Kp.drop {S S' : List Addr} {H H1 : Hp} (k : Kp S H H1) (h : ∀ b ∈ S, b ∉ S' → H b = none) : Kp S' H H1 :=
  k.sub fun b n n' o e => by rw [h b n n'] at e; cases e
theorem Kp.mono {S S' : List Addr} {H H1 : Hp} (k : Kp S H H1) (h : ∀ b ∈ S, b ∈ S') : Kp S' H H1 := k.sub fun b n n' => absurd (h b n) n'
theorem hid_same {S : List Addr} {H : Hp} : Same (hid S H) H := fun b o h => (of_hid h).1
theorem hid_sub {S S' : List Addr} {H : Hp} (h : ∀ b ∈ S', b ∈ S) : Same (hid S H) (hid S' H) := fun b o e => hid_of (of_hid e).1 fun n => (of_hid e).2 (h b n)
theorem same_new {H : Hp} {p : Addr} {o : HO} (h : H p = none) : Same H (upd H p o) := fun b x e => by
  rw [upd_ne (ne_of_none e h)]
  exact e
theorem ne_new {H : Hp} {a p : Addr} {o : HO} (h : H a = some o) (n : H p = none) : p ≠ a := fun e => by rw [e, h] at n; cases n
/-! ### data in a heap -/
theorem same_tup {K : PySem.W.Frag} {H H' : Hp} {a : Addr} {xs : List V} (e : Same H H') (h : SqT K H a xs) : SqT K H' a xs := by
  rcases h with (h | ⟨o, h⟩) | h
  · exact .inl (.inl (e _ _ h))
  · exact .inl (.inr ⟨o, e _ _ h⟩)
  · exact .inr h
mutual
theorem dp_same {K : PySem.W.Frag} {H H' : Hp} (k : Same H H') : ∀ {d : PyData} {v : V}, Dp K H v d → Dp K H' v d
  | .none, _, h => by cases h; exact .non
  | .bool b, _, h => by cases h; exact .bl b
  | .int i, _, h => by cases h; exact .int i
  | .str x, _, h => by cases h; exact .str x
  | .list ds, _, h => by
    cases h with
    | lst hs ha => exact .lst (k.seq hs) (dps_same k ha)
  | .tuple ds, _, h => by
    cases h with
    | tup hs ha => exact .tup (same_tup k hs) (dps_same k ha)
  | .dict _, _, h => by cases h
theorem dps_same {K : PySem.W.Frag} {H H' : Hp} (k : Same H H') : ∀ {ds : List PyData} {vs : List V}, DpAll K H vs ds → DpAll K H' vs ds
  | [], _, h => by cases h; exact .nil
  | d :: ds, _, h => by
    cases h with
    | cons h1 h2 => exact .cons (dp_same k h1) (dps_same k h2)
end
theorem dps_len {K : PySem.W.Frag} {H : Hp} : ∀ {ds : List PyData} {vs : List V}, DpAll K H vs ds → vs.length = ds.length
  | [], _, h => by cases h; rfl
  | d :: ds, _, h => by
    cases h with
    | cons h1 h2 => rw [List.length_cons, List.length_cons, dps_len h2]
theorem dps_at {K : PySem.W.Frag} {H : Hp} : ∀ {ds : List PyData} {vs : List V} {i : Nat} {d : PyData}, DpAll K H vs ds → ds[i]? = some d → ∃ v, vs[i]? = some v ∧ Dp K H v d
  | [], _, i, _, h, e => by simp at e
  | d :: ds, _, 0, _, h, e => by
    cases h with
    | cons h1 h2 =>
      cases e
      exact ⟨_, rfl, h1⟩
  | d :: ds, _, i + 1, _, h, e => by
    cases h with
    | cons h1 h2 =>
      obtain ⟨v, h3, h4⟩ := dps_at h2 (i := i) (by simpa using e)
      exact ⟨v, by simpa using h3, h4⟩
theorem dps_app {K : PySem.W.Frag} {H : Hp} : ∀ {ds es : List PyData} {vs us : List V}, DpAll K H vs ds → DpAll K H us es → DpAll K H (vs ++ us) (ds ++ es)
  | [], _, _, _, h, g => by cases h; exact g
  | d :: ds, _, _, _, h, g => by
    cases h with
    | cons h1 h2 => exact .cons h1 (dps_app h2 g)
theorem dps_ints {K : PySem.W.Frag} {H : Hp} : ∀ ns : List Int, DpAll K H (ns.map V.int) (ns.map PyData.int)
  | [] => .nil
  | n :: ns => .cons (.int n) (dps_ints ns)
theorem dps_ints_eq {K : PySem.W.Frag} {H : Hp} : ∀ {ns : List Int} {vs : List V}, DpAll K H vs (ns.map PyData.int) → vs = ns.map V.int
  | [], _, h => by cases h; rfl
  | n :: ns, _, h => by
    cases h with
    | cons h1 h2 =>
      cases h1
      rw [dps_ints_eq h2]
      rfl
theorem dp_list {K : PySem.W.Frag} {H : Hp} {v : V} {ds : List PyData} (h : Dp K H v (.list ds)) : ∃ a xs, v = .ref a ∧ SqL K H a xs ∧ DpAll K H xs ds := by
  cases h with
  | lst h1 h2 => exact ⟨_, _, rfl, h1, h2⟩
theorem dp_tup {K : PySem.W.Frag} {H : Hp} {v : V} {ds : List PyData} (h : Dp K H v (.tuple ds)) : ∃ a xs, v = .ref a ∧ SqT K H a xs ∧ DpAll K H xs ds := by
  cases h with
  | tup h1 h2 => exact ⟨_, _, rfl, h1, h2⟩
theorem dp_int {K : PySem.W.Frag} {H : Hp} {v : V} {i : Int} (h : Dp K H v (.int i)) : v = .int i := by
  cases h; rfl
theorem dp_pair {K : PySem.W.Frag} {H : Hp} {v : V} {d e : PyData} (h : Dp K H v (.tuple [d, e])) : ∃ a x y, v = .ref a ∧ SqT K H a [x, y] ∧ Dp K H x d ∧ Dp K H y e := by
  cases h with
  | tup h1 h2 =>
    cases h2 with
    | cons h3 h4 =>
      cases h4 with
      | cons h5 h6 =>
        cases h6
        exact ⟨_, _, _, rfl, h1, h3, h5⟩
theorem mk_pair {K : PySem.W.Frag} {H : Hp} {a : Addr} {x y : V} {d e : PyData} (h : H a = some (.tup [x, y])) (hx : Dp K H x d) (hy : Dp K H y e) : Dp K H (.ref a) (.tuple [d, e]) :=
  .tup (.inl (.inl h)) (.cons hx (.cons hy .nil))
theorem mk_ints {K : PySem.W.Frag} {H : Hp} {a : Addr} {ns : List Int} (h : H a = some (.lst (ns.map V.int))) : Dp K H (.ref a) (.list (ns.map .int)) :=
  .lst (.inl (.inl h)) (dps_ints ns)
theorem dp_ints {K : PySem.W.Frag} {H : Hp} {v : V} {ns : List Int} (h : Dp K H v (.list (ns.map .int))) : ∃ a, v = .ref a ∧ SqL K H a (ns.map V.int) := by
  obtain ⟨a, xs, rfl, h1, h2⟩ := dp_list h
  rw [dps_ints_eq h2] at h1
  exact ⟨a, rfl, h1⟩
/-! ### the bag -/
def bagL (c : Addr) (i s t : Int) : List V := [.ref c, .int i, .int s, .int t]
structure Bag (H : Hp) (a c : Addr) : Prop where
  ex : ∃ (ls : List Int) (i s t : Int), H a = some (.lst (bagL c i s t)) ∧ H c = some (.lst (ls.map V.int)) ∧ 0 ≤ i ∧ ls.length ≤ 1000 ∧ 0 ≤ s ∧ s < 2 ^ 63
  ne : a ≠ c
theorem Bag.keep {H H' : Hp} {a c : Addr} (b : Bag H a c) (k : Same H H') : Bag H' a c := by
  obtain ⟨⟨ls, i, s, t, h1, h2, h3⟩, h4⟩ := b
  exact ⟨⟨ls, i, s, t, k _ _ h1, k _ _ h2, h3⟩, h4⟩
theorem Bag.ha {H : Hp} {a c : Addr} (b : Bag H a c) : ∃ o, H a = some o := by
  obtain ⟨⟨ls, i, s, t, h1, h2, h3⟩, h4⟩ := b
  exact ⟨_, h1⟩
theorem Bag.hc {H : Hp} {a c : Addr} (b : Bag H a c) : ∃ o, H c = some o := by
  obtain ⟨⟨ls, i, s, t, h1, h2, h3⟩, h4⟩ := b
  exact ⟨_, h2⟩
/-- a new object is laid: the bag stays -/
theorem Bag.new {H : Hp} {a c p : Addr} {o : HO} (b : Bag H a c) (n : H p = none) : Bag (upd H p o) a c := b.keep (same_new n)
theorem Bag.out {H : Hp} {a c p : Addr} (b : Bag H a c) (n : H p = none) : p ∉ [a, c] := by
  obtain ⟨o, h1⟩ := b.ha
  obtain ⟨o2, h2⟩ := b.hc
  intro z
  rcases List.mem_cons.mp z with rfl | z
  · rw [h1] at n; cases n
  · rcases List.mem_cons.mp z with rfl | z
    · rw [h2] at n; cases n
    · cases z
/-- an object beside the bag is written -/
theorem Bag.wr {H : Hp} {a c p : Addr} {o : HO} (b : Bag H a c) (n : p ∉ [a, c]) : Bag (upd H p o) a c := by
  obtain ⟨⟨ls, i, s, t, h1, h2, h3⟩, h4⟩ := b
  refine ⟨⟨ls, i, s, t, ?_, ?_, h3⟩, h4⟩
  · rw [upd_ne (fun e => n (by simp [e]))]; exact h1
  · rw [upd_ne (fun e => n (by simp [e]))]; exact h2
/-- the promise of a draw -/
def spDraw : Sp := fun vs H Q _ => ∃ (a c : Addr) (m : Int), vs = [.ref a, .int m] ∧ Bag H a c ∧ 0 < m ∧ m < 2 ^ 1000 ∧
  ∀ r H', 0 ≤ r → r < m → Bag H' a c → Kp [a, c] H H' → Q (.int r) H'
end Bd
namespace Bd
open PySem PySem.Spec PyProof.Rows L2 HT
theorem cut_ints (ns : List Int) (lo hi : Option Int) : ∃ ms : List Int, cutV (ns.map V.int) lo hi = ms.map V.int ∧ ms.length ≤ ns.length := by
  refine ⟨(ns.drop (HT.sIx (ns.map V.int).length 0 lo)).take (HT.sIx (ns.map V.int).length (ns.map V.int).length hi - HT.sIx (ns.map V.int).length 0 lo), ?_, ?_⟩
  · unfold cutV
    rw [List.map_take, List.map_drop]
  · rw [List.length_take, List.length_drop]
    omega
theorem ints_at {ns : List Int} {i : Nat} {x : V} (h : (ns.map V.int)[i]? = some x) : ∃ n, x = V.int n ∧ ns[i]? = some n := by
  rw [List.getElem?_map] at h
  cases e : ns[i]? with
  | none => rw [e] at h; cases h
  | some n =>
    rw [e] at h
    exact ⟨n, (Option.some.inj h).symm, rfl⟩
theorem lt_of_at {α : Type} {xs : List α} {i : Nat} {x : α} (h : xs[i]? = some x) : i < xs.length := (List.getElem?_eq_some_iff.mp h).1
def spBag (K : PySem.W.Frag) : Sp := fun vs H Q _ => ∃ (a : Addr) (ns : List Int), vs = [.ref a] ∧ SqL K H a (ns.map V.int) ∧ ns.length ≤ 63 ∧
  ∀ b c H', Same H H' → H b = none → H c = none → Bag H' b c → Q (.ref b) H'
end Bd
namespace Bd
open PySem PySem.Spec PyProof.Rows L2 HT
def pairD (p : Nat × Nat) : PyData := .tuple [.int p.1, .int p.2]
def doorsD (ds : List (Nat × Nat)) : PyData := .list (ds.map pairD)
def houseD (rooms : Nat) (ds : List (Nat × Nat)) : PyData := .tuple [.int rooms, doorsD ds]
/-- doors of so many rooms -/
def Doors (rooms : Nat) (ds : List (Nat × Nat)) : Prop := ∀ d ∈ ds, d.1 < rooms ∧ d.2 < rooms ∧ d.1 ≠ d.2
theorem Kp.free {S : List Addr} {H H1 : Hp} (k : Kp S H H1) {p : Addr} (n : H1 p = none) : hid S H p = none := by
  cases e : hid S H p with
  | none => rfl
  | some o =>
    have := (of_hid (k p o e)).1
    rw [n] at this; cases this
/-- data of a shape that == takes, of depth n at most -/
def Shp (n : Nat) (d : PyData) : Prop := d.canLay0 = true ∧ d.depth ≤ n
theorem Shp.ok {n : Nat} {d : PyData} (h : Shp n d) (hn : n ≤ 64) : SeqAt.shaped d = true := by
  unfold SeqAt.shaped
  rw [h.1, Bool.true_and]
  exact decide_eq_true (Nat.le_trans h.2 hn)
theorem shp_int {n : Nat} (i : Int) : Shp n (.int i) := ⟨rfl, Nat.zero_le _⟩
theorem shp_all {n : Nat} : ∀ {xs : List PyData}, (∀ x ∈ xs, Shp n x) → PyData.canLayAll0 xs = true ∧ PyData.depthAll xs ≤ n
  | [], _ => ⟨rfl, Nat.zero_le _⟩
  | x :: xs, h => by
    obtain ⟨h1, h2⟩ := h x (List.mem_cons_self)
    obtain ⟨h3, h4⟩ := shp_all (xs := xs) fun y hy => h y (List.mem_cons_of_mem _ hy)
    exact ⟨by rw [PyData.canLayAll0, h1, h3]; rfl, by rw [PyData.depthAll]; exact Nat.max_le.mpr ⟨h2, h4⟩⟩
theorem shp_list {n : Nat} {xs : List PyData} (h : ∀ x ∈ xs, Shp n x) : Shp (n + 1) (.list xs) := by
  obtain ⟨h1, h2⟩ := shp_all h
  exact ⟨by rw [PyData.canLay0]; exact h1, by rw [PyData.depth]; omega⟩
theorem shp_tup {n : Nat} {xs : List PyData} (h : ∀ x ∈ xs, Shp n x) : Shp (n + 1) (.tuple xs) := by
  obtain ⟨h1, h2⟩ := shp_all h
  exact ⟨by rw [PyData.canLay0]; exact h1, by rw [PyData.depth]; omega⟩
theorem shp_ints {n : Nat} (ns : List Int) : Shp (n + 1) (.list (ns.map .int)) := shp_list fun x hx => by
  obtain ⟨i, _, rfl⟩ := List.mem_map.mp hx
  exact shp_int i
theorem shp_pair {n : Nat} (p : Nat × Nat) : Shp (n + 1) (pairD p) := shp_tup fun x hx => by
  rcases List.mem_cons.mp hx with rfl | hx
  · exact shp_int _
  · rcases List.mem_cons.mp hx with rfl | hx
    · exact shp_int _
    · cases hx
theorem shp_doors {n : Nat} (ds : List (Nat × Nat)) : Shp (n + 2) (doorsD ds) := shp_list fun x hx => by
  obtain ⟨p, _, rfl⟩ := List.mem_map.mp hx
  exact shp_pair p
theorem shp_house {n : Nat} (rooms : Nat) (ds : List (Nat × Nat)) : Shp (n + 3) (houseD rooms ds) := shp_tup fun x hx => by
  rcases List.mem_cons.mp hx with rfl | hx
  · exact shp_int _
  · rcases List.mem_cons.mp hx with rfl | hx
    · exact shp_doors ds
    · cases hx
theorem atI_two {x y : V} {r : Int} (h0 : 0 ≤ r) (h1 : r < 2) : ∃ v, atI [x, y] r = some v ∧ (v = x ∨ v = y) := by
  have : r = 0 ∨ r = 1 := by omega
  rcases this with rfl | rfl
  · exact ⟨x, rfl, .inl rfl⟩
  · exact ⟨y, rfl, .inr rfl⟩
def spGround (K : PySem.W.Frag) : Sp := fun vs H Q _ => ∃ (a c : Addr) (most wide : Nat), vs = [.ref a, .int most, .int wide] ∧ Bag H a c ∧ 0 < most ∧ most ≤ 10 ∧ wide ≤ 24 ∧
  ∀ hv H' rooms ds, 0 < rooms → rooms ≤ max 4 most → ds.length ≤ max 5 wide → Doors rooms ds → Bag H' a c → Kp [a, c] H H' → Dp K (hid [a, c] H') hv (houseD rooms ds) → Q hv H'
end Bd
namespace Bd
open PySem PySem.Spec PyProof.Rows L2 HT
/-! ### what rooms meet, what leaves lots -/
abbrev Dc := (Nat × Nat) × Int
def metAt (z : List Dc) (r : Nat) : Int := (z.map fun x => (if x.1.1 = r then x.2 else 0) + (if x.1.2 = r then x.2 else 0)).sum
def metL (rooms : Nat) (z : List Dc) : List Int := (List.range rooms).map (metAt z)
def lvAt (lot : List Nat) (x : Dc) : Bool := decide (x.1.1 ∈ lot) != decide (x.1.2 ∈ lot)
def leaveM (z : List Dc) (lot : List Nat) : Int := ((z.filter (lvAt lot)).map (·.2)).sum
def natsL (lot : List Nat) : List Int := lot.map fun (r : Nat) => (r : Int)
theorem natsL_len (lot : List Nat) : (natsL lot).length = lot.length := by unfold natsL; rw [List.length_map]
theorem natsL_at {lot : List Nat} {i r : Nat} (h : lot[i]? = some r) : (natsL lot)[i]? = some (r : Int) := by
  unfold natsL; rw [List.getElem?_map, h]; rfl
theorem metAt_snoc (z : List Dc) (x : Dc) (r : Nat) : metAt (z ++ [x]) r = metAt z r + ((if x.1.1 = r then x.2 else 0) + (if x.1.2 = r then x.2 else 0)) := by
  unfold metAt
  rw [List.map_append, List.sum_append]
  simp
theorem metL_len (rooms : Nat) (z : List Dc) : (metL rooms z).length = rooms := by unfold metL; rw [List.length_map, List.length_range]
theorem metL_at {rooms r : Nat} (z : List Dc) (h : r < rooms) : (metL rooms z)[r]? = some (metAt z r) := by
  unfold metL
  rw [List.getElem?_map, List.getElem?_range h]
  rfl
theorem metL_snoc {rooms : Nat} (z : List Dc) (x : Dc) (h1 : x.1.1 < rooms) (h2 : x.1.2 < rooms) (hn : x.1.1 ≠ x.1.2) :
    ((metL rooms z).set x.1.1 (metAt z x.1.1 + x.2)).set x.1.2 (metAt z x.1.2 + x.2) = metL rooms (z ++ [x]) := by
  apply List.ext_getElem?
  intro i
  by_cases hi : i < rooms
  · rw [metL_at _ hi, metAt_snoc]
    by_cases e2 : x.1.2 = i
    · subst e2
      rw [List.getElem?_set_self (by rw [List.length_set, metL_len]; exact hi), if_neg hn, if_pos rfl, Int.zero_add]
    · rw [List.getElem?_set_ne e2, if_neg e2, Int.add_zero]
      by_cases e1 : x.1.1 = i
      · subst e1
        rw [List.getElem?_set_self (by rw [metL_len]; exact hi), if_pos rfl]
      · rw [List.getElem?_set_ne e1, if_neg e1, Int.add_zero, metL_at _ hi]
  · rw [List.getElem?_eq_none (by simp only [List.length_set, metL_len]; omega), List.getElem?_eq_none (by rw [metL_len]; omega)]
theorem metL_nil (rooms : Nat) : metL rooms [] = List.replicate rooms 0 := by
  apply List.ext_getElem?
  intro i
  by_cases hi : i < rooms
  · rw [metL_at _ hi, List.getElem?_replicate, if_pos hi]
    rfl
  · rw [List.getElem?_eq_none (by rw [metL_len]; omega), List.getElem?_eq_none (by simp; omega)]
theorem zip_at {ds : List (Nat × Nat)} {cs : List Int} {i : Nat} {d : Nat × Nat} {c : Int} (h1 : ds[i]? = some d) (h2 : cs[i]? = some c) : (ds.zip cs)[i]? = some (d, c) := by
  rw [List.getElem?_zip_eq_some]
  exact ⟨h1, h2⟩
theorem take_snoc {α : Type} {xs : List α} {i : Nat} {x : α} (h : xs[i]? = some x) : xs.take (i + 1) = xs.take i ++ [x] := by
  rw [List.take_add_one, h]
  rfl
theorem inV_nats (r : Nat) (lot : List Nat) : inV (.int r) ((natsL lot).map V.int) = decide (r ∈ lot) := by
  unfold inV natsL
  rw [List.map_map, List.any_map]
  induction lot with
  | nil => rfl
  | cons x xs ih =>
    rw [List.any_cons, ih]
    show ((x : Int) == (r : Int) || decide (r ∈ xs)) = decide (r ∈ x :: xs)
    by_cases h : r = x
    · subst h
      simp
    · have h2 : ((x : Int) == (r : Int)) = false := by
        rw [beq_eq_false_iff_ne]
        omega
      rw [h2, Bool.false_or]
      simp [h]
theorem flat_ints (ns : List Int) : (ns.map V.int).all flatV = true := by
  rw [List.all_map, List.all_eq_true]
  intro x _
  rfl
theorem leave_take {z : List Dc} {lot : List Nat} {i : Nat} {x : Dc} (h : z[i]? = some x) :
    ((z.take (i + 1)).filter (lvAt lot)).map (·.2) = if lvAt lot x = true then ((z.take i).filter (lvAt lot)).map (·.2) ++ [x.2] else ((z.take i).filter (lvAt lot)).map (·.2) := by
  rw [take_snoc h, List.filter_append, List.map_append]
  by_cases e : lvAt lot x = true
  · rw [if_pos e, List.filter_cons_of_pos e]
    rfl
  · rw [if_neg e, List.filter_cons_of_neg e]
    simp
def spMet (K : PySem.W.Frag) : Sp := fun vs H Q _ => ∃ (hv cv : V) (rooms : Nat) (ds : List (Nat × Nat)) (cs : List Int), vs = [hv, cv] ∧ Dp K H hv (houseD rooms ds) ∧ Dp K H cv (.list (cs.map .int)) ∧ rooms ≤ 100 ∧ cs.length = ds.length ∧ ds.length ≤ 500 ∧ Doors rooms ds ∧
  ∀ H' p, Same H H' → H p = none → H' p = some (.lst ((metL rooms (ds.zip cs)).map V.int)) → Q (.ref p) H'
def spLeave (K : PySem.W.Frag) : Sp := fun vs H Q _ => ∃ (hv cv lv : V) (rooms : Nat) (ds : List (Nat × Nat)) (cs : List Int) (lot : List Nat), vs = [hv, cv, lv] ∧ Dp K H hv (houseD rooms ds) ∧ Dp K H cv (.list (cs.map .int)) ∧ Dp K H lv (.list ((natsL lot).map .int)) ∧
  cs.length = ds.length ∧ ds.length ≤ 500 ∧ ∀ H', Same H H' → Q (.int (leaveM (ds.zip cs) lot)) H'
/-- a house, read -/
theorem house_of {K : PySem.W.Frag} {H : Hp} {hv : V} {rooms : Nat} {ds : List (Nat × Nat)} (h : Dp K H hv (houseD rooms ds)) :
    ∃ s d vs, hv = .ref s ∧ SqT K H s [.int rooms, .ref d] ∧ SqL K H d vs ∧ DpAll K H vs (ds.map pairD) := by
  obtain ⟨s, x, y, rfl, h1, h2, h3⟩ := dp_pair h
  obtain rfl := dp_int h2
  obtain ⟨d, vs, rfl, h4, h5⟩ := dp_list h3
  exact ⟨s, d, vs, rfl, h1, h4, h5⟩
theorem pair_of {K : PySem.W.Frag} {H : Hp} {v : V} {d : Nat × Nat} (h : Dp K H v (pairD d)) : ∃ p, v = .ref p ∧ SqT K H p [.int d.1, .int d.2] := by
  obtain ⟨s, x, y, rfl, h1, h2, h3⟩ := dp_pair h
  obtain rfl := dp_int h2
  obtain rfl := dp_int h3
  exact ⟨s, rfl, h1⟩
theorem pairs_at {K : PySem.W.Frag} {H : Hp} {vs : List V} {ds : List (Nat × Nat)} {i : Nat} {v : V} (h : DpAll K H vs (ds.map pairD)) (e : vs[i]? = some v) : ∃ d p, ds[i]? = some d ∧ v = .ref p ∧ SqT K H p [.int d.1, .int d.2] := by
  have hl := dps_len h
  rw [List.length_map] at hl
  have hi : i < ds.length := by have := lt_of_at e; omega
  obtain ⟨u, e1, h1⟩ := dps_at h (i := i) (d := pairD ds[i]) (by rw [List.getElem?_map, List.getElem?_eq_getElem hi]; rfl)
  rw [e] at e1
  cases e1
  obtain ⟨p, rfl, h2⟩ := pair_of h1
  exact ⟨ds[i], p, List.getElem?_eq_getElem hi, rfl, h2⟩
end Bd
namespace Bd
open PySem PySem.Spec PyProof.Rows L2 HT
theorem ixN_nat {n j : Nat} (h : j < n) : ixN n (j : Int) = some j := by
  unfold ixN
  rw [if_pos (by omega), if_pos (by omega)]
  simp
theorem flat_rep (n : Nat) : (List.replicate n [V.int 0]).flatten = (List.replicate n (0 : Int)).map V.int := by
  induction n with
  | zero => rfl
  | succ n ih => rw [List.replicate_succ, List.flatten_cons, ih, List.replicate_succ]; rfl
end Bd
namespace Bd
open PySem PySem.Spec PyProof.Rows L2 HT
/-! ### two things that are the same data -/
/-- ints, and lists and tuples of such, at most n deep, of at most 1000 things each -/
inductive Gd : Nat → PyData → Prop
  | int (n : Nat) (i : Int) : Gd n (.int i)
  | lst {n : Nat} {ds : List PyData} (h : ∀ d ∈ ds, Gd n d) (l : ds.length ≤ 1000) : Gd (n + 1) (.list ds)
  | tup {n : Nat} {ds : List PyData} (h : ∀ d ∈ ds, Gd n d) (l : ds.length ≤ 1000) : Gd (n + 1) (.tuple ds)
theorem tyx_list {K : PySem.W.Frag} {H : Hp} {a : Addr} {xs : List V} (h : SqL K H a xs) : TyX K H (.ref a) (.type "list") := by
  rcases h with (h | ⟨o, h⟩) | ⟨o, its, n, h, c, _⟩
  · exact .base (.lst h)
  · exact .base (.frz h)
  · exact .kList h c
theorem tyx_tup {K : PySem.W.Frag} {H : Hp} {a : Addr} {xs : List V} (h : SqT K H a xs) : TyX K H (.ref a) (.type "tuple") := by
  rcases h with (h | ⟨o, h⟩) | ⟨o, its, n, h, c, _⟩
  · exact .base (.tup h)
  · exact .fTuple h
  · exact .kTuple h c
theorem tyx_same {K : PySem.W.Frag} {H H' : Hp} {v : V} {n : String} (k : Same H H') (h : (∃ a xs, v = .ref a ∧ n = "list" ∧ SqL K H a xs) ∨ (∃ a xs, v = .ref a ∧ n = "tuple" ∧ SqT K H a xs) ∨ (∃ i, v = .int i ∧ n = "int")) : TyX K H' v (.type n) := by
  rcases h with ⟨a, xs, rfl, rfl, h⟩ | ⟨a, xs, rfl, rfl, h⟩ | ⟨i, rfl, rfl⟩
  · exact tyx_list (k.seq h)
  · exact tyx_tup (same_tup k h)
  · exact .base (.int i)
theorem kit_two {K : PySem.W.Frag} {a b c : String} {v u : Bool} (h1 : kitB a b = some v) (h2 : kitB a c = some u) : PySem.W.kitAny K (.type a) [.type b, .type c] = some (v || u) := by
  refine kitAny_cons (kit_ty h1) (fun e => ?_) (fun e => by rw [e]; rfl)
  rw [e, Bool.false_or]
  refine kitAny_cons (kit_ty h2) (fun e => by rw [e]; exact kitAny_nil) (fun e => e)
def spAlike (K : PySem.W.Frag) : Nat → Sp
  | 0 => fun _ _ _ _ => False
  | n + 1 => fun vs H Q _ => ∃ (v u : V) (d : PyData), vs = [v, u] ∧ Dp K H v d ∧ Dp K H u d ∧ Gd n d ∧ ∀ H', Same H H' → Q (.bl true) H'
end Bd
namespace Bd
open PySem PySem.Spec PyProof.Rows L2 HT
theorem atI_three {x y z : V} {r : Int} (h0 : 0 ≤ r) (h1 : r < 3) : ∃ v, atI [x, y, z] r = some v ∧ (v = x ∨ v = y ∨ v = z) := by
  have : r = 0 ∨ r = 1 ∨ r = 2 := by omega
  rcases this with rfl | rfl | rfl
  · exact ⟨x, rfl, .inl rfl⟩
  · exact ⟨y, rfl, .inr (.inl rfl)⟩
  · exact ⟨z, rfl, .inr (.inr rfl)⟩
def spTallies (K : PySem.W.Frag) : Sp := fun vs H Q _ => ∃ (a c : Addr) (dv : V) (ds : List (Nat × Nat)), vs = [.ref a, dv] ∧ Bag H a c ∧ Dp K (hid [a, c] H) dv (doorsD ds) ∧ ds.length ≤ 100 ∧
  ∀ t H' (cs : List Int), cs.length = ds.length → (∀ x ∈ cs, 0 ≤ x ∧ x < 10 ^ 20) → Bag H' a c → Kp [a, c] H H' → Dp K (hid [a, c] H') (.ref t) (.list (cs.map .int)) → Q (.ref t) H'
def spLot (K : PySem.W.Frag) : Sp := fun vs H Q _ => ∃ (a c : Addr) (rooms : Nat), vs = [.ref a, .int rooms] ∧ Bag H a c ∧ rooms ≤ 100 ∧
  ∀ t H' (lot : List Nat), lot.length ≤ rooms → Bag H' a c → Kp [a, c] H H' → Dp K (hid [a, c] H') (.ref t) (.list ((natsL lot).map .int)) → Q (.ref t) H'
end Bd
namespace Bd
open PySem PySem.Spec PyProof.Rows L2 HT
theorem rgV_nats (n : Nat) : rgV 0 (n : Int) = (natsL (List.range n)).map V.int := by
  unfold rgV natsL
  rw [List.map_map, Int.sub_zero, Int.toNat_natCast]
  refine List.map_congr_left fun i _ => ?_
  show V.int (0 + (i : Int)) = V.int (i : Int)
  rw [Int.zero_add]
end Bd
namespace Bd
open PySem PySem.Spec PyProof.Rows L2 HT
theorem filt_take {z : List Dc} {p : Dc → Bool} {i : Nat} {x : Dc} (h : z[i]? = some x) :
    ((z.take (i + 1)).filter p).map (fun x => V.int x.2) = if p x = true then ((z.take i).filter p).map (fun x => V.int x.2) ++ [V.int x.2] else ((z.take i).filter p).map (fun x => V.int x.2) := by
  rw [take_snoc h, List.filter_append, List.map_append]
  by_cases e : p x = true
  · rw [if_pos e, List.filter_cons_of_pos e]
    rfl
  · rw [if_neg e, List.filter_cons_of_neg e]
    simp
/-- a door at a room -/
def atRoom (r : Nat) (x : Dc) : Bool := decide (r = x.1.1) || decide (r = x.1.2)
theorem atRoom_sum (r : Nat) : ∀ z : List Dc, (∀ x ∈ z, x.1.1 ≠ x.1.2) → ((z.filter (atRoom r)).map Prod.snd).sum = metAt z r
  | [], _ => rfl
  | x :: z, h => by
    have h1 := h x List.mem_cons_self
    have ih := atRoom_sum r z fun y hy => h y (List.mem_cons_of_mem _ hy)
    have e : metAt (x :: z) r = ((if x.1.1 = r then x.2 else 0) + (if x.1.2 = r then x.2 else 0)) + metAt z r := by
      unfold metAt
      rw [List.map_cons, List.sum_cons]
    rw [e, ← ih]
    by_cases c1 : x.1.1 = r
    · have c2 : x.1.2 ≠ r := fun q => h1 (c1.trans q.symm)
      rw [List.filter_cons_of_pos (by unfold atRoom; simp [c1]), List.map_cons, List.sum_cons, if_pos c1, if_neg c2, Int.add_zero]
    · by_cases c2 : x.1.2 = r
      · rw [List.filter_cons_of_pos (by unfold atRoom; simp [c2]), List.map_cons, List.sum_cons, if_neg c1, if_pos c2, Int.zero_add]
      · rw [List.filter_cons_of_neg (by unfold atRoom; simp; exact ⟨fun q => c1 q.symm, fun q => c2 q.symm⟩), if_neg c1, if_neg c2, Int.add_zero, Int.zero_add]
theorem inV_pair (r a b : Nat) : inV (.int r) [.int a, .int b] = (decide (r = a) || decide (r = b)) := by
  show ((a : Int) == (r : Int) || ((b : Int) == (r : Int) || false)) = _
  rw [Bool.or_false]
  congr 1
  · by_cases h : r = a
    · subst h; simp
    · rw [beq_eq_false_iff_ne.mpr (by omega), decide_eq_false h]
  · by_cases h : r = b
    · subst h; simp
    · rw [beq_eq_false_iff_ne.mpr (by omega), decide_eq_false h]
theorem zip_doors {rooms : Nat} {ds : List (Nat × Nat)} {cs : List Int} (h : Doors rooms ds) : ∀ x ∈ ds.zip cs, x.1.1 ≠ x.1.2 := fun x hx => (h x.1 (List.of_mem_zip (a := x.1) (b := x.2) hx).1).2.2
theorem gd_ints {n : Nat} {ns : List Int} (l : ns.length ≤ 1000) : Gd (n + 1) (.list (ns.map .int)) := .lst (fun d hd => by
  obtain ⟨i, _, rfl⟩ := List.mem_map.mp hd
  exact .int _ _) (by rw [List.length_map]; exact l)
def spRight (K : PySem.W.Frag) : Sp := fun vs H Q _ => ∃ (hv cv : V) (rooms : Nat) (ds : List (Nat × Nat)) (cs : List Int), vs = [hv, cv] ∧ Dp K H hv (houseD rooms ds) ∧ Dp K H cv (.list (cs.map .int)) ∧ rooms ≤ 100 ∧ cs.length = ds.length ∧ ds.length ≤ 500 ∧ Doors rooms ds ∧
  ∀ H', Same H H' → Q (.bl true) H'
def spLotRight (K : PySem.W.Frag) : Sp := fun vs H Q _ => ∃ (hv cv lv : V) (rooms : Nat) (ds : List (Nat × Nat)) (cs : List Int) (lot : List Nat), vs = [hv, cv, lv] ∧ Dp K H hv (houseD rooms ds) ∧ Dp K H cv (.list (cs.map .int)) ∧ Dp K H lv (.list ((natsL lot).map .int)) ∧
  rooms ≤ 100 ∧ lot.length ≤ 100 ∧ cs.length = ds.length ∧ ds.length ≤ 500 ∧ Doors rooms ds ∧ ∀ H', Same H H' → Q (.bl true) H'
end Bd
namespace Bd
open PySem PySem.Spec PyProof.Rows L2 HT
theorem leaveM_snoc (z : List Dc) (x : Dc) (lot : List Nat) : leaveM (z ++ [x]) lot = leaveM z lot + (if lvAt lot x = true then x.2 else 0) := by
  unfold leaveM
  rw [List.filter_append, List.map_append, List.sum_append]
  by_cases e : lvAt lot x = true
  · rw [if_pos e, List.filter_cons_of_pos e]
    simp
  · rw [if_neg e, List.filter_cons_of_neg e]
    simp
/-- rooms that are not in a lot -/
def besideL (rooms : Nat) (lot : List Nat) : List Nat := (List.range rooms).filter fun r => !decide (r ∈ lot)
theorem mem_beside {rooms r : Nat} {lot : List Nat} (h : r < rooms) : decide (r ∈ besideL rooms lot) = !decide (r ∈ lot) := by
  unfold besideL
  by_cases e : r ∈ lot
  · rw [decide_eq_true e, decide_eq_false]
    · rfl
    · intro q
      have := (List.mem_filter.mp q).2
      rw [decide_eq_true e] at this
      cases this
  · rw [decide_eq_false e, decide_eq_true]
    · rfl
    · exact List.mem_filter.mpr ⟨List.mem_range.mpr h, by rw [decide_eq_false e]; rfl⟩
theorem leave_beside {rooms : Nat} {lot : List Nat} : ∀ {z : List Dc}, (∀ x ∈ z, x.1.1 < rooms ∧ x.1.2 < rooms) → leaveM z (besideL rooms lot) = leaveM z lot := by
  intro z h
  unfold leaveM
  have e : z.filter (lvAt (besideL rooms lot)) = z.filter (lvAt lot) := by
    refine List.filter_congr fun x hx => ?_
    obtain ⟨h1, h2⟩ := h x hx
    unfold lvAt
    rw [mem_beside h1, mem_beside h2]
    cases decide (x.1.1 ∈ lot) <;> cases decide (x.1.2 ∈ lot) <;> rfl
  rw [e]
theorem zip_rooms {rooms : Nat} {ds : List (Nat × Nat)} {cs : List Int} (h : Doors rooms ds) : ∀ x ∈ ds.zip cs, x.1.1 < rooms ∧ x.1.2 < rooms := fun x hx =>
  ⟨(h x.1 (List.of_mem_zip (a := x.1) (b := x.2) hx).1).1, (h x.1 (List.of_mem_zip (a := x.1) (b := x.2) hx).1).2.1⟩
theorem nats_at {lot : List Nat} {i : Nat} {x : V} (h : ((natsL lot).map V.int)[i]? = some x) : ∃ r : Nat, x = V.int r ∧ lot[i]? = some r := by
  obtain ⟨n, rfl, e⟩ := ints_at h
  unfold natsL at e
  rw [List.getElem?_map] at e
  cases q : lot[i]? with
  | none => rw [q] at e; cases e
  | some r =>
    rw [q] at e
    exact ⟨r, by rw [← Option.some.inj e], rfl⟩
/-- what a comprehension with a test has made, a turn more -/
theorem nats_take {lot : List Nat} {p : Nat → Bool} {i r : Nat} (h : lot[i]? = some r) :
    (natsL ((lot.take (i + 1)).filter p)).map V.int = if p r = true then (natsL ((lot.take i).filter p)).map V.int ++ [V.int r] else (natsL ((lot.take i).filter p)).map V.int := by
  unfold natsL
  rw [take_snoc h, List.filter_append, List.map_append, List.map_append]
  by_cases e : p r = true
  · rw [if_pos e, List.filter_cons_of_pos e]
    rfl
  · rw [if_neg e, List.filter_cons_of_neg e]
    simp
theorem one_in (a b : Nat) (lot : List Nat) (c : Int) : (([a, b].filter fun r => decide (r ∈ lot)).length : Int) = 1 ↔ lvAt lot ((a, b), c) = true := by
  unfold lvAt
  by_cases h1 : a ∈ lot <;> by_cases h2 : b ∈ lot <;> simp [h1, h2]
end Bd
namespace Bd
open PySem PySem.Spec PyProof.Rows L2 HT
theorem shp_two {n : Nat} {d e : PyData} (h1 : Shp n d) (h2 : Shp n e) : Shp (n + 1) (.list [d, e]) := shp_list fun x hx => by
  rcases List.mem_cons.mp hx with rfl | hx
  · exact h1
  · rcases List.mem_cons.mp hx with rfl | hx
    · exact h2
    · cases hx
theorem Shp.refl {n : Nat} {d : PyData} (h : Shp n d) : PyData.eqv d d = true := SeqAt.eqv_refl d h.1
end Bd
namespace Bd
open PySem PySem.Spec PyProof.Rows L2 HT
/-! ### a def that is run where no text of an object is being made -/
structure FnG (P : Program) (w : World) (K : PySem.W.Frag) (mg : Str → Option Value) (base : Heap) (k : Nat) (f : Addr) (fd : FuncData) (ps : List Str) (sp : Sp) : Prop where
  len : ∀ vs H Q E, sp vs H Q E → vs.length = ps.length
  run : ∀ (A : Around) (outer : List Env) (s : Shared) (H : Hp) (args : Args) (us : List Value) (vs : List V) (Q : VK) (E : XK), A.guards = some [] → Room k A → Env0 P w K mg base A outer s H → BindsTo s fd args (ps.zip us) → Vals vs us → sp vs H Q E →
    codeAny (model P w) A (.call (.ref f) args) (CR CX0 outer P w H s Q E) s
section
variable {P : Program} {w : World} {K : PySem.W.Frag} {mg : Str → Option Value} {base : Heap}
theorem fnG_of {x qual : Str} {st : Stmt} {f : Addr} {fd : FuncData} {N ps : List Str} {k : Nat} {sp : Sp} (F : Fun K x qual st f fd) (S : FnScope N ps (defScope st)) (len : ∀ vs H Q E, sp vs H Q E → vs.length = ps.length)
    (body : ∀ (cdv : Value) (A : Around) (outer : List Env) (s : Shared) (H : Hp) (vs : List V) (Q : VK) (E : XK), Room k (A.deeper (envOfC qual (defScope st) s.heap.objs.size f cdv)) → (A.deeper (envOfC qual (defScope st) s.heap.objs.size f cdv)).guards = some [] → sp vs H Q E →
      ∃ t, PSs (cxOf CX0 P w K mg base N qual (defScope st) f cdv A outer s H E).nox (defBody st) t ∧ t { nx := fun _ H' => Q .non H', rt := Q } (start N vs) H) : FnG P w K mg base (k + 1) f fd ps sp where
  len := len
  run := by
    obtain ⟨oc, od, kV, doc, pm, an, cdv, ct, osl, rfl, lk, hcd⟩ := F.ex
    intro A outer s H args us vs Q E hg room env bnd vls hs
    have here : K.In s.heap := env.mod.kin.keeps fun b o h => (env.bs b o h).1
    have cells : ∀ y ∈ ps.zip us, (defScope st).names.lookup y.1 = some .local ∨ ((defScope st).names.lookup y.1 = some .cell ∧ ((cellsFrom (s.heap.objs.size + 1) (defScope st).names []).lookup y.1).isSome = true) := by
      rintro ⟨n, v⟩ hy
      cases S.par n (List.of_mem_zip hy).1 with
      | inl q => exact .inl q
      | inr q => exact .inr ⟨q, PySem.W.cellsFrom_some _ _ _ (.inl q)⟩
    refine codeAny_call_function room.depth (here _ _ lk) rfl S.co S.gen rfl (PySem.W.codeRec_of here hcd) (bnd _ _ _ _ (wpAny_newFunctionEnv_cells S.kind cells ?_))
    rintro e rfl s1 inc
    refine ⟨Heap.NoLimit.keeps (env.mod.nolimit.keeps fun b o h => (env.bs b o h).1) inc.toInCall.keep, codeAny_func ?_⟩
    obtain ⟨t, hp, ht⟩ := body cdv A outer s H vs Q E (room.deeper _) hg hs
    have I := inv_start (CX := CX0) (P := P) (w := w) (K := K) (mg := mg) (base := base) (qual := qual) (f := f) (cd := cdv) (E := E) S room.hd env (len _ _ _ _ hs) vls inc
    refine wpAny_mono (hp.nox.run [] s1 (start N vs) H _ I ht) (fun r s2 h => ?_) fun _ _ h => h
    match r, h with
    | .ret u, ⟨v, _, H2, J, rv, q⟩ => exact ⟨v, H2, J.os, J.bare, J.base, J.hok, rv, q⟩
    | .next, ⟨_, H2, J, q⟩ => exact ⟨V.non, H2, J.os, J.bare, J.base, J.hok, rfl, q⟩
    | .brk, ⟨_, _, _, q⟩ => exact q.elim
    | .cont, ⟨_, _, _, q⟩ => exact q.elim
/-- what promises more widely promises here too -/
theorem FnG.of {k : Nat} {f : Addr} {fd : FuncData} {ps : List Str} {sp : Sp} (F : FnOk P w K mg base CX0 k f fd ps sp) : FnG P w K mg base k f fd ps sp :=
  ⟨F.len, fun A outer s H args us vs Q E _ => F.run A outer s H args us vs Q E⟩
end
end Bd
namespace Bd
open PySem PySem.Spec PyProof.Rows L2 HT
/-! ### the law's own call -/
section
variable {P : Program} {w : World} {K : PySem.W.Frag} {mg mb : Str → Option Value} {k : Nat} {fa a : Addr} {fd : FuncData} {x : Str} {sp : Sp} {s₁ : Shared} {vs : List Value} {ns : List Int}
/-- from a heap in which the script alone may be tracked -/
theorem runG (KX : K.In s₁.heap) (hns : s₁.heap.Ns mainGlobals mg) (hb : s₁.heap.Ns builtinsNs mb) (hbb : ∀ x : Str, x ≠ "__name__" → mb x = bootBuiltins x) (hlim : s₁.heap.NoLimit) (hg : s₁.gens = #[])
    (ha : s₁.heap.get? a = some { cls := .type "list", data := .seq vs.toArray }) (hr : Room k callerA)
    (F : ∀ base : Heap, K.In base → base.Ns mainGlobals mg → FnG P w K mg base k fa fd [x] sp) (hbind : ∀ (s : Shared) (u : Value), BindsTo s fd ⟨[u], []⟩ [(x, u)])
    (H : Hp) (only : ∀ b u, H b = some u → b = a ∧ ∃ xs, u = .frz { cls := .type "list", data := .seq vs.toArray } (.lst xs)) (hok : HOk P w H s₁.heap) (apart : H a = none ∨ K.lookup a = none)
    (hsp : sp [.ref a] H (fun v _ => v = .bl true) fun _ _ _ => False) :
    codeAny (model P w) callerA (.call (.ref fa) ⟨[.ref a], []⟩) (fun r s' => r = .ok (.ret (.bool true)) ∧ OldK s₁.heap s'.heap ∧ s'.os = s₁.os ∧ AllBare s'.gens) s₁ := by
  have vis : ∀ {b : Addr} {o : Obj}, s₁.heap.get? b = some o → (b ≠ a ∨ H a = none) → (hidT s₁.heap H).get? b = some o := by
    intro b o e h
    refine hidT_get e ?_
    cases q : H b with
    | none => rfl
    | some u =>
      obtain ⟨rfl, _⟩ := only b u q
      rcases h with h | h
      · exact absurd rfl h
      · rw [q] at h; cases h
  have dicts : ∀ {b : Addr} {o : Obj} {es : Array DictEntry} {ep : Nat}, s₁.heap.get? b = some o → o.data = .dict es ep → (hidT s₁.heap H).get? b = some o := by
    intro b o es ep e d
    refine vis e (.inl fun z => ?_)
    rw [z, ha] at e
    cases e
    cases d
  have names : ∀ {b : Addr} {m : Str → Option Value}, s₁.heap.Ns b m → (hidT s₁.heap H).Ns b m := by
    rintro b m ⟨o, es, ep, e, d, r⟩
    exact ⟨o, es, ep, dicts e d, d, r⟩
  have KI : K.In (hidT s₁.heap H) := by
    intro b o e
    refine vis (KX b o e) ?_
    rcases apart with z | z
    · exact .inr z
    · refine .inl fun q => ?_
      rw [q, z] at e
      cases e
  have env : Env0 P w K mg (hidT s₁.heap H) callerA [] s₁ H := by
    refine ⟨rfl, ⟨KI, names hns, ⟨mb, names hb, hbb⟩, ?_⟩, fun b o e => of_hidT e, by rw [hidT_size]; exact Nat.le_refl _, trivial, fun b z => (nomatch z), hok, .of_eq hg⟩
    obtain ⟨mc, q1, q2⟩ := hlim
    exact ⟨mc, names q1, q2⟩
  refine codeAny_mono ((F _ KI (names hns)).run callerA [] s₁ H ⟨[.ref a], []⟩ [.ref a] [.ref a] _ _ rfl hr env (hbind s₁ (.ref a)) (.cons rfl .nil) hsp) ?_
  rintro r s' h
  match r, h with
  | .error e, h => exact h.elim
  | .ok (.next), h => exact h.elim
  | .ok (.brk), h => exact h.elim
  | .ok (.cont), h => exact h.elim
  | .ok (.ret u), ⟨v, H2, os, bare, un, ok2, rv, q⟩ =>
    obtain rfl : v = .bl true := q
    obtain rfl : u = Value.bool true := rv
    refine ⟨rfl, OldK.of_keep ?_, os, bare⟩
    intro b o e
    cases q : H b with
    | none => exact un.keep b o e q (fun z => nomatch z) (fun z => nomatch z)
    | some u =>
      obtain ⟨rfl, xs, rfl⟩ := only b u q
      have e1 := (hok _ _ q).1
      have e2 := (ok2 _ _ (un.frzs _ _ _ q)).1
      exact e2.trans (e1.symm.trans e)
end
theorem walkG {l : PySem.W.OpenLaw} {k : Nat} {q : Program} {loose : List Str} {XP : (Str → Option Value) → Heap → Prop} {YP : World → Heap → Prop} {d : DefRec} {K : Params → PySem.W.Frag} {sp : PySem.W.Frag → Sp} {x : Str}
    (hn : l.most = some 63) (hdf : d.params.defaults = []) (hr : Room k callerA) (hY : ∀ (w : World) (h : Heap), YP w h → (K w.params).In h)
    (F : ∀ (w : World) (mg : Str → Option Value) (fa : Addr) (h : Heap), (K w.params).In h → h.Ns mainGlobals mg → mg d.name = some (.ref fa) →
      ∃ fd : FuncData, (∀ (s : Shared) (u : Value), BindsTo s fd ⟨[u], []⟩ [(x, u)]) ∧ ∀ base : Heap, (K w.params).In base → base.Ns mainGlobals mg → FnG l.prog w (K w.params) mg base k fa fd [x] (sp (K w.params)))
    (hsp : ∀ (K : PySem.W.Frag) (H : Hp) (a : Addr) (ns : List Int), ns.length ≤ 63 → SqL K H a (ns.map V.int) → sp K [.ref a] H (fun v _ => v = .bl true) fun _ _ _ => False) :
    PySem.W.WalkO q loose XP YP l.row.toRowW d [] (fun f vs => PySem.call f vs) := by
  refine Att.attach_call hn hdf ?_
  intro w s₀ s₁ mg mb fa o pm cd doc a vs ns G Y ho hd hcd hmg hobj hints hlen hg
  have KX := hY w _ Y
  obtain ⟨fd, hbind, hF⟩ := F w mg fa _ KX G.T.g hmg
  have hz : ns.length ≤ sizeLine := Nat.le_trans hlen (by decide)
  have rv := vals_ints hints
  have lv := hints.length
  by_cases e : (K w.params).lookup a = none
  · refine runG KX G.T.g G.T.b G.T.builtins G.T.nolimit hg hobj hr hF hbind (upd (fun _ => none) a (.frz { cls := .type "list", data := .seq vs.toArray } (.lst (ns.map V.int)))) ?_ ?_ (.inr e) (hsp _ _ _ ns hlen (.inl (.inr ⟨_, upd_same⟩)))
    · intro b u z
      by_cases h : b = a
      · subst h
        rw [upd_same] at z
        cases z
        exact ⟨rfl, _, rfl⟩
      · rw [upd_ne h] at z
        cases z
    · intro b u z
      by_cases h : b = a
      · subst h
        rw [upd_same] at z
        cases z
        exact ⟨hobj, by rw [List.length_map]; exact hz, vs, _, rv, hobj⟩
      · rw [upd_ne h] at z
        cases z
  · obtain ⟨ob, e2⟩ := Option.ne_none_iff_exists'.mp e
    have e3 := KX a ob e2
    rw [hobj] at e3
    cases e3
    refine runG KX G.T.g G.T.b G.T.builtins G.T.nolimit hg hobj hr hF hbind (fun _ => none) (fun _ _ z => nomatch z) (fun _ _ z => nomatch z) (.inl rfl) (hsp _ _ _ ns hlen (.inr ⟨_, vs.toArray, _, e2, rfl, rfl, rfl, ?_, by simpa using rv⟩))
    rw [List.size_toArray, lv]
    exact hz
end Bd
namespace Bd
open PySem PySem.Spec PyProof.Rows L2 HT
/-! ### texts of data -/
/-- data that has a text of bounded size: W bounds its weight -/
structure Rp (d : PyData) (n W : Nat) : Prop where
  lay : d.canLay0 = true
  dep : d.depth ≤ n
  sho : d.showable = true
  sml : d.leavesShort 100 = true
  wei : d.weight ≤ W
theorem rp_int {i : Int} (h0 : -(2 ^ 90) < i) (h1 : i < 2 ^ 90) : Rp (.int i) 0 90 := by
  have hl : i.natAbs.log2 < 90 := PySem.Flt.log2_lt_of (by decide) (by omega)
  refine ⟨rfl, Nat.le_refl _, ?_, ?_, ?_⟩
  · show decide (i.natAbs.log2 < 1920) = true
    exact decide_eq_true (by omega)
  · show decide ((PyData.shown (.int i)).length ≤ 100) = true
    refine decide_eq_true ?_
    show (Str.ofString (toString i)).length ≤ 100
    rw [PySem.ofString_length]
    have := int_text_length_le (a := i) (k := 90) (by decide) hl
    omega
  · show (if i == 0 then 0 else i.natAbs.log2 + 1) ≤ 90
    split <;> omega
theorem rp_all {n W : Nat} : ∀ {xs : List PyData}, (∀ x ∈ xs, Rp x n W) → PyData.canLayAll0 xs = true ∧ PyData.depthAll xs ≤ n ∧ PyData.showableAll xs = true ∧ PyData.leavesShortAll 100 xs = true ∧ PyData.weightAll xs ≤ xs.length * (W + 1)
  | [], _ => ⟨rfl, Nat.zero_le _, rfl, rfl, Nat.zero_le _⟩
  | x :: xs, h => by
    obtain ⟨a1, a2, a3, a4, a5⟩ := h x List.mem_cons_self
    obtain ⟨b1, b2, b3, b4, b5⟩ := rp_all (xs := xs) fun y hy => h y (List.mem_cons_of_mem _ hy)
    refine ⟨by rw [PyData.canLayAll0, a1, b1]; rfl, by rw [PyData.depthAll]; exact Nat.max_le.mpr ⟨a2, b2⟩, by rw [PyData.showableAll, a3, b3]; rfl, by rw [PyData.leavesShortAll, a4, b4]; rfl, ?_⟩
    rw [PyData.weightAll, List.length_cons, Nat.succ_mul]
    omega
theorem rp_list {n W : Nat} {xs : List PyData} (h : ∀ x ∈ xs, Rp x n W) : Rp (.list xs) (n + 1) (xs.length * (W + 1)) := by
  obtain ⟨a1, a2, a3, a4, a5⟩ := rp_all h
  exact ⟨by rw [PyData.canLay0]; exact a1, by rw [PyData.depth]; omega, by rw [PyData.showable]; exact a3, by rw [PyData.leavesShort]; exact a4, by rw [PyData.weight]; exact a5⟩
theorem rp_tup {n W : Nat} {xs : List PyData} (h : ∀ x ∈ xs, Rp x n W) : Rp (.tuple xs) (n + 1) (xs.length * (W + 1)) := by
  obtain ⟨a1, a2, a3, a4, a5⟩ := rp_all h
  exact ⟨by rw [PyData.canLay0]; exact a1, by rw [PyData.depth]; omega, by rw [PyData.showable]; exact a3, by rw [PyData.leavesShort]; exact a4, by rw [PyData.weight]; exact a5⟩
theorem Rp.up {d : PyData} {n m W V : Nat} (h : Rp d n W) (h1 : n ≤ m) (h2 : W ≤ V) : Rp d m V := ⟨h.lay, Nat.le_trans h.dep h1, h.sho, h.sml, Nat.le_trans h.wei h2⟩
theorem Rp.fits {d : PyData} {n W : Nat} (h : Rp d n W) (hW : W ≤ 100000) : d.shown.length ≤ sizeLine := by
  have h1 := PyData.shown_le 100 (by decide) d h.sml
  have h2 := h.wei
  rw [sizeLine_eq]
  omega
section
variable {X : Cx}
/-- repr of data at any depth -/
theorem call_reprD (hg : X.A.guards = some []) (hu : X.A.units + 64 < cLine) : CallR X (.builtin "repr") (fun xs H Q => ∃ (a : Addr) (d : PyData) (n W : Nat), xs = [.ref a] ∧ Dp X.K H (.ref a) d ∧ Rp d n W ∧ n ≤ 50 ∧ W ≤ 100000 ∧ Q (.str d.shown) H) := by
  intro pins s σ H xs us Q I r h
  obtain ⟨a, d, n, W, rfl, hd, hr, hn, hW, q⟩ := h
  obtain ⟨u, rfl, rx⟩ := vals1 r
  cases (show u = Value.ref a from rx)
  obtain ⟨as, rd⟩ := Dp.reads I d (.ref a) (.ref a) hd rfl
  refine repr_of_reads' rd hr.sho (PyData.noDict_hsm (PyData.hasDict_of_canLay d hr.lay)) hg (by have := hr.dep; omega) (fun b o e => e) (fun h' u tk hk => ?_) (hr.fits hW)
  exact ⟨.str d.shown, H, I.kept hk, ⟨u, rfl⟩, q⟩
end
end Bd
namespace Bd
open PySem PySem.Spec PyProof.Rows L2 HT
theorem rp_two {d e : PyData} {n W : Nat} (h1 : Rp d n W) (h2 : Rp e n W) : Rp (.list [d, e]) (n + 1) (2 * (W + 1)) := rp_list fun x hx => by
  rcases List.mem_cons.mp hx with rfl | hx
  · exact h1
  · rcases List.mem_cons.mp hx with rfl | hx
    · exact h2
    · cases hx
theorem rp_nat {i : Nat} (h : i ≤ 100) : Rp (.int i) 0 90 := rp_int (by omega) (by omega)
theorem rp_pair {p : Nat × Nat} (h1 : p.1 ≤ 100) (h2 : p.2 ≤ 100) : Rp (pairD p) 1 182 := rp_tup (n := 0) (W := 90) (xs := [.int p.1, .int p.2]) fun x hx => by
  rcases List.mem_cons.mp hx with rfl | hx
  · exact rp_nat h1
  · rcases List.mem_cons.mp hx with rfl | hx
    · exact rp_nat h2
    · cases hx
theorem rp_house {rooms : Nat} {ds : List (Nat × Nat)} (h : Doors rooms ds) (h1 : rooms ≤ 100) (h2 : ds.length ≤ 100) : Rp (houseD rooms ds) 3 40000 := by
  have hd : Rp (doorsD ds) 2 18300 := by
    have := rp_list (n := 1) (W := 182) (xs := ds.map pairD) fun x hx => by
      obtain ⟨p, hp, rfl⟩ := List.mem_map.mp hx
      obtain ⟨q1, q2, _⟩ := h p hp
      exact rp_pair (by omega) (by omega)
    refine this.up (by decide) ?_
    rw [List.length_map]
    omega
  have := rp_tup (n := 2) (W := 18300) (xs := [.int rooms, doorsD ds]) fun x hx => by
    rcases List.mem_cons.mp hx with rfl | hx
    · exact (rp_nat h1).up (by decide) (by decide)
    · rcases List.mem_cons.mp hx with rfl | hx
      · exact hd
      · cases hx
  exact this.up (by decide) (by show 2 * (18300 + 1) ≤ 40000; decide)
theorem rp_ints {cs : List Int} (h : ∀ x ∈ cs, 0 ≤ x ∧ x < 10 ^ 20) (h2 : cs.length ≤ 100) : Rp (.list (cs.map .int)) 3 40000 := by
  have := rp_list (n := 0) (W := 90) (xs := cs.map .int) fun x hx => by
    obtain ⟨i, hi, rfl⟩ := List.mem_map.mp hx
    obtain ⟨q1, q2⟩ := h i hi
    exact rp_int (by omega) (by omega)
  refine this.up (by decide) ?_
  rw [List.length_map]
  omega
theorem leave_one (r : Nat) : ∀ z : List Dc, (∀ x ∈ z, x.1.1 ≠ x.1.2) → leaveM z [r] = metAt z r := by
  intro z h
  rw [← atRoom_sum r z h]
  unfold leaveM
  have e : z.filter (lvAt [r]) = z.filter (atRoom r) := by
    refine List.filter_congr fun x hx => ?_
    have hn := h x hx
    unfold lvAt atRoom
    by_cases c1 : x.1.1 = r
    · have c2 : ¬ x.1.2 = r := fun q => hn (c1.trans q.symm)
      simp [c1, c2]
    · by_cases c2 : x.1.2 = r
      · have c3 : ¬ r = x.1.1 := fun q => c1 q.symm
        simp [c1, c2, c3]
      · have c3 : ¬ r = x.1.1 := fun q => c1 q.symm
        have c4 : ¬ r = x.1.2 := fun q => c2 q.symm
        simp [c1, c2, c3, c4]
  rw [e]
def spLaw (K : PySem.W.Frag) : Sp := fun vs H Q _ => ∃ (a : Addr) (ns : List Int), vs = [.ref a] ∧ SqL K H a (ns.map V.int) ∧ ns.length ≤ 63 ∧ ∀ H', Q (.bl true) H'
end Bd
set_option maxHeartbeats 3200000
namespace Bd
open PySem PySem.Spec PyProof.Rows L2
section
variable {P : Program} {w : World} {A : Around} {E : Value → Shared → Prop} {s : Shared}
/-- a set as it is made -/
abbrev bare (w : World) : Obj := { cls := .type "set", dict := none, data := .set #[] 0 (.fresh 0 0 (!w.params.followText "set-order")) }
theorem call_set_ints {l : Addr} {its : Array Value} (ns : List Int) {Q : Value → Shared → Prop} (hh : A.handled = none) (hl : s.heap.IsList l its) (hit : IntsAre its.toList ns) (hb : ns.length + 1 < scanBound)
    (h : ∀ (h' : Heap) (tk c : Nat), SetR w h' s.heap.objs.size (fun j => decide (j ∈ ns)) c → c ≤ ns.length → (∀ b o, s.heap.get? b = some o → h'.get? b = some o) → Q (.ref s.heap.objs.size) { s with heap := h', toks := tk }) :
    wpAny (model P w) A (call (.type "set") [.ref l]) Q E s := by
  have size : its.size = ns.length := (Array.length_toList (xs := its)).symm.trans (IntsAre.length hit)
  obtain ⟨c, tl, mro⟩ := F.called_set.mro
  have f1 := F.called_set.made; have f2 := F.called_set.sub; have f3 := F.called_set.notType; have f4 := F.called_set.canCreate; have f5 := F.typeCall_set_1 (.ref l)
  refine wpAny_call (codeAny_of_tree (show wpAny _ _ (callAny (.type "set") _) _ _ _ from wpAny_pure ⟨Code.quiet_builtin _ (by decide +kernel), codeAny_builtin F.entry_type_call ?_⟩))
  rw [Around.under_plain (weight_type_call_type "set" [.ref l] []) rfl]; repeat (any_goals (first | assumption | wp_step))
  refine codeAny_mono (code_set_led1 (.ref l) (E := E) (Q₁ := fun obj z => obj = .ref s.heap.objs.size ∧ z = { s with heap := s.heap.push (bare w) }) ⟨rfl, rfl⟩) fun r z hr => ?_
  match r, hr with
  | .error e, hr => exact hr
  | .ok .next, hr => exact hr.elim
  | .ok .brk, hr => exact hr.elim
  | .ok .cont, hr => exact hr.elim
  | .ok (.ret obj), hr =>
    obtain ⟨rfl, rfl⟩ := hr
    have g0 : (s.heap.push (bare w)).get? s.heap.objs.size = some (bare w) := Heap.get?_push_size _ rfl
    have g1 : Shared.TypeIs { s with heap := s.heap.push (bare w) } (.ref s.heap.objs.size) "set" := ⟨_, g0, rfl⟩
    have g2 := F.called_set.init.lookup; have g3 := F.called_set.init.bind (.ref s.heap.objs.size)
    repeat (any_goals (first | assumption | wp_step))
    refine codeAny_mono (codeAny_call_builtin (R := wants (fun r z => r = .none ∧ ∃ h' tk c, z = { s with heap := h', toks := tk } ∧ SetR w h' s.heap.objs.size (fun j => decide (j ∈ ns)) c ∧ c ≤ ns.length ∧ (∀ b o, s.heap.get? b = some o → h'.get? b = some o)) E)
      F.called_set.init.plain F.entry_set_init (check_set_init_1 g1 ?_)) fun r2 z2 hr2 => ?_
    · obtain ⟨⟨ocls, odict, odata, oslots⟩, hol, hcl, nl, hdl⟩ := hl
      simp only at hcl hdl; subst hcl; subst hdl
      have q0 : (s.heap.push (bare w)).get? l = some { cls := .type "list", dict := odict, data := .seq its nl, slots := oslots } := Heap.get?_push_of_some _ hol
      have q1 := F.sub_list_set; have q2 := F.sub_list_frozenset
      have q3 : (Value.type "list" == Value.type "dict") = false := by decide
      have q4 : (s.heap.push (bare w)).IsList l its := ⟨_, q0, rfl, nl, rfl⟩
      unfold Builtin.«set.__init__» noKeywords Builtin.Frozenset.updateFrom; generalize hPI : pyIter = PI; wp_walk; subst hPI
      refine wpAny_pyIter_list q4 (wpAny_bind (wpAny_runValue ?_))
      have lS : l < s.heap.objs.size := Heap.lt_size hol
      have calm : A.in1.in1.in1.handled = none := by simp [hh]
      have sz : (s.heap.push (bare w)).objs.size = s.heap.objs.size + 1 := Heap.size_push ..
      have ne : l ≠ (s.heap.push (bare w)).objs.size := by rw [sz]; exact Nat.ne_of_lt (Nat.lt_succ_of_lt lS)
      have out : s.heap.objs.size ∉ [(s.heap.push (bare w)).objs.size, l] := by
        rw [sz]
        intro z
        rcases List.mem_cons.mp z with z | z
        · omega
        · exact absurd (List.mem_singleton.mp z) (Nat.ne_of_gt lS)
      have val : ∀ (i : Nat) (v : Value), its[i]? = some v → ∃ k t, ns[i]? = some k ∧ v = .int k t := by
        intro i v hv
        have hi : i < ns.length := by rw [← size]; exact (Array.getElem?_eq_some_iff.mp hv).1
        obtain ⟨t, e⟩ := PyProof.Rows.IntsAre.int_at hit i v (by rw [Array.getElem?_toList]; exact hv)
        exact ⟨ns[i], t, List.getElem?_eq_getElem hi, by rw [e, List.getD_eq_getElem?_getD, List.getElem?_eq_getElem hi]; rfl⟩
      refine set_update_ints ((Walks.list calm _ l ne its).toS) s.heap.objs.size out ns size hb val (its.size - 0) 0 _ (by omega) (Nat.zero_le _) ⟨⟨_, Heap.get?_push_size _ rfl, rfl, rfl⟩, (q4.push _)⟩ ⟨0, Nat.le_refl 0, setR_new_at (Heap.get?_push_of_some _ g0)⟩ ?_
      rintro ⟨h', g', d', tk', os'⟩ c' hm hc' hS'
      have eg : g' = s.gens := hm.gens; have ed : d' = s.drawn := hm.drawn; have eo : os' = s.os := hm.os
      subst eg; subst ed; subst eo
      show wpAny _ _ _ _ _ _
      refine wpAny_pure (show wpAny _ _ (ret Value.none) _ _ _ from wpAny_pure ⟨rfl, h', tk', c', rfl, hS', by omega, fun b o e => ?_⟩)
      have b0 : b < s.heap.objs.size := Heap.lt_size e
      refine hm.heap b o (fun z => ?_) (Heap.get?_push_of_some _ (Heap.get?_push_of_some _ e))
      rcases List.mem_cons.mp z with z | z
      · exact absurd z (Nat.ne_of_lt b0)
      · exact absurd ((List.mem_singleton.mp z).trans sz) (Nat.ne_of_lt (Nat.lt_succ_of_lt b0))
    · match r2, hr2 with
      | .error e, h2 => exact h2
      | .ok .next, h2 => exact h2.elim
      | .ok .brk, h2 => exact h2.elim
      | .ok .cont, h2 => exact h2.elim
      | .ok (.ret _), h2 =>
        obtain ⟨rfl, h', tk, c', rfl, hS', hc', hk'⟩ := h2
        repeat (any_goals (first | assumption | wp_step))
        exact h _ _ _ hS' hc' hk'
end
section
variable {X : Cx}
/-- set(xs), a list of ints -/
def rSetOfL (K : PySem.W.Frag) (w : World) : List V → Hp → VK → Prop := fun as H Q => ∃ (l : Addr) (ns : List Int), as = [.ref l] ∧ SqL K H l (ns.map V.int) ∧ ns.length ≤ 1000 ∧
  ∀ p c, H p = none → c ≤ ns.length → Q (.ref p) (upd H p (SetO w p (fun j => decide (j ∈ ns)) c))
theorem call_setL (hc : X.calm = true) : CallR X (.type "set") (rSetOfL X.K X.w) := by
  intro pins s σ H as us Q I r h
  obtain ⟨l, ns, rfl, hq, hn, q⟩ := h
  obtain ⟨u, rfl, rx⟩ := vals1 r
  cases (show u = Value.ref l from rx)
  obtain ⟨its, rv, hl, hz⟩ := I.list hq
  refine call_set_ints ns (I.ok.hd hc) hl.isList (by simpa using intsAre_of rv) (by unfold scanBound; omega) fun h' tk c S hc k => ?_
  have new : H s.heap.objs.size = none := I.hok.fresh (Nat.le_refl _)
  exact ⟨.ref s.heap.objs.size, upd H s.heap.objs.size (SetO X.w s.heap.objs.size (fun j => decide (j ∈ ns)) c), I.laid (t' := tk) k (Nat.le_refl _) (setO_new S), rfl, q _ _ new hc⟩
end
end Bd
namespace Bd
open PySem PySem.Spec PyProof.Rows L2 HT
/-! ### parts, by leaders -/
def relab (L : List Nat) (a b : Nat) : List Nat := L.map fun v => if v = max (L.getD a 0) (L.getD b 0) then min (L.getD a 0) (L.getD b 0) else v
def leadStep (L : List Nat) (x : Dc) : List Nat := if 0 < x.2 then relab L x.1.1 x.1.2 else L
def leadL (n : Nat) (z : List Dc) : List Nat := z.foldl leadStep (List.range n)
structure Led (n : Nat) (z : List Dc) (L : List Nat) : Prop where
  len : L.length = n
  low : ∀ r, r < n → L.getD r 0 ≤ r
  idem : ∀ r, r < n → L.getD (L.getD r 0) 0 = L.getD r 0
  eq : ∀ x ∈ z, 0 < x.2 → L.getD x.1.1 0 = L.getD x.1.2 0
  con : ∀ S : Nat → Prop, (∀ x ∈ z, 0 < x.2 → (S x.1.1 ↔ S x.1.2)) → ∀ r, r < n → (S r ↔ S (L.getD r 0))
theorem getD_map {f : Nat → Nat} {L : List Nat} {r : Nat} (h : r < L.length) : (L.map f).getD r 0 = f (L.getD r 0) := by
  rw [List.getD_eq_getElem?_getD, List.getD_eq_getElem?_getD, List.getElem?_map, List.getElem?_eq_getElem h]
  rfl
theorem led_nil (n : Nat) : Led n [] (List.range n) := by
  have e : ∀ r, r < n → (List.range n).getD r 0 = r := fun r h => by
    rw [List.getD_eq_getElem?_getD, List.getElem?_range h]
    rfl
  refine ⟨List.length_range, fun r h => by rw [e r h]; exact Nat.le_refl _, fun r h => by rw [e r h, e r h], (fun x hx => by cases hx), fun S _ r h => by rw [e r h]⟩
theorem led_step {n : Nat} {z : List Dc} {L : List Nat} {x : Dc} (h : Led n z L) (ha : x.1.1 < n) (hb : x.1.2 < n) : Led n (z ++ [x]) (leadStep L x) := by
  unfold leadStep
  by_cases c : 0 < x.2
  · rw [if_pos c]
    have hmax : max (L.getD x.1.1 0) (L.getD x.1.2 0) = L.getD x.1.1 0 ∨ max (L.getD x.1.1 0) (L.getD x.1.2 0) = L.getD x.1.2 0 := by omega
    have hmin : min (L.getD x.1.1 0) (L.getD x.1.2 0) = L.getD x.1.1 0 ∨ min (L.getD x.1.1 0) (L.getD x.1.2 0) = L.getD x.1.2 0 := by omega
    have hle : min (L.getD x.1.1 0) (L.getD x.1.2 0) ≤ max (L.getD x.1.1 0) (L.getD x.1.2 0) := by omega
    have hcov : ∀ v, v = L.getD x.1.1 0 ∨ v = L.getD x.1.2 0 → v = max (L.getD x.1.1 0) (L.getD x.1.2 0) ∨ v = min (L.getD x.1.1 0) (L.getD x.1.2 0) := by intro v hv; omega
    have il : L.getD (min (L.getD x.1.1 0) (L.getD x.1.2 0)) 0 = min (L.getD x.1.1 0) (L.getD x.1.2 0) := by
      rcases hmin with e | e
      · rw [e]; exact h.idem _ ha
      · rw [e]; exact h.idem _ hb
    have ll : min (L.getD x.1.1 0) (L.getD x.1.2 0) < n := by
      have := h.low _ ha
      omega
    generalize hlo : min (L.getD x.1.1 0) (L.getD x.1.2 0) = lo at *
    generalize hhi : max (L.getD x.1.1 0) (L.getD x.1.2 0) = hi at *
    have g : ∀ r, r < n → (relab L x.1.1 x.1.2).getD r 0 = if L.getD r 0 = hi then lo else L.getD r 0 := fun r hr => by
      unfold relab
      rw [getD_map (by rw [h.len]; exact hr), hlo, hhi]
    have lt : ∀ r, r < n → L.getD r 0 < n := fun r hr => Nat.lt_of_le_of_lt (h.low r hr) hr
    have gl : ∀ r, r < n → (relab L x.1.1 x.1.2).getD (L.getD r 0) 0 = if L.getD r 0 = hi then lo else L.getD r 0 := fun r hr => by rw [g _ (lt r hr), h.idem r hr]
    refine ⟨by unfold relab; rw [List.length_map]; exact h.len, fun r hr => ?_, fun r hr => ?_, fun y hy hp => ?_, fun S hS r hr => ?_⟩
    · rw [g r hr]
      have := h.low r hr
      split <;> omega
    · rw [g r hr]
      by_cases e : L.getD r 0 = hi
      · rw [if_pos e, g lo ll, il]
        split <;> rfl
      · rw [if_neg e, gl r hr, if_neg e]
    · rcases List.mem_append.mp hy with hy | hy
      · have hlt := h.eq y hy hp
        by_cases q1 : y.1.1 < n
        · by_cases q2 : y.1.2 < n
          · rw [g _ q1, g _ q2, hlt]
          · -- beyond the rooms both are 0 by default
            have e2 : ∀ M : List Nat, M.length = n → M.getD y.1.2 0 = 0 := fun M hM => by rw [List.getD_eq_getElem?_getD, List.getElem?_eq_none (by omega)]; rfl
            have h2 := e2 L h.len
            have h3 := e2 (relab L x.1.1 x.1.2) (by unfold relab; rw [List.length_map]; exact h.len)
            rw [h3, g _ q1, hlt, h2]
            split <;> omega
        · have e1 : ∀ M : List Nat, M.length = n → M.getD y.1.1 0 = 0 := fun M hM => by rw [List.getD_eq_getElem?_getD, List.getElem?_eq_none (by omega)]; rfl
          have h2 := e1 L h.len
          have h3 := e1 (relab L x.1.1 x.1.2) (by unfold relab; rw [List.length_map]; exact h.len)
          by_cases q2 : y.1.2 < n
          · rw [h3, g _ q2, ← hlt, h2]
            split <;> omega
          · have e2 : ∀ M : List Nat, M.length = n → M.getD y.1.2 0 = 0 := fun M hM => by rw [List.getD_eq_getElem?_getD, List.getElem?_eq_none (by omega)]; rfl
            rw [h3, e2 (relab L x.1.1 x.1.2) (by unfold relab; rw [List.length_map]; exact h.len)]
      · rw [List.mem_singleton.mp hy, g _ ha, g _ hb]
        have c1 := hcov _ (.inl rfl)
        have c2 := hcov _ (.inr rfl)
        split <;> split <;> omega
    · have base := h.con S (fun y hy => hS y (List.mem_append_left _ hy))
      have hx := hS x (List.mem_append_right _ (List.mem_singleton.mpr rfl)) c
      have sa := base _ ha
      have sb := base _ hb
      have same : S lo ↔ S hi := by
        have e1 : S (L.getD x.1.1 0) ↔ S (L.getD x.1.2 0) := sa.symm.trans (hx.trans sb)
        rcases hmin with e | e <;> rcases hmax with e' | e' <;> rw [e, e'] <;> first | exact Iff.rfl | exact e1 | exact e1.symm
      rw [g r hr]
      by_cases e : L.getD r 0 = hi
      · rw [if_pos e, same, ← e]; exact base r hr
      · rw [if_neg e]; exact base r hr
  · rw [if_neg c]
    refine ⟨h.len, h.low, h.idem, fun y hy hp => ?_, fun S hS r hr => h.con S (fun y hy => hS y (List.mem_append_left _ hy)) r hr⟩
    rcases List.mem_append.mp hy with hy | hy
    · exact h.eq y hy hp
    · rw [List.mem_singleton.mp hy] at hp
      exact absurd hp c
theorem leadL_snoc (n : Nat) (z : List Dc) (x : Dc) : leadL n (z ++ [x]) = leadStep (leadL n z) x := by
  unfold leadL
  rw [List.foldl_append]
  rfl
theorem led_all {n : Nat} : ∀ z : List Dc, (∀ x ∈ z, x.1.1 < n ∧ x.1.2 < n) → Led n z (leadL n z) := by
  intro z
  induction hz : z.length generalizing z with
  | zero =>
    intro _
    rw [List.length_eq_zero_iff.mp hz]
    exact led_nil n
  | succ m ih =>
    intro h
    obtain ⟨y, x, rfl⟩ : ∃ y x, z = y ++ [x] := ⟨z.dropLast, z.getLast (by intro e; rw [e] at hz; cases hz), (List.dropLast_concat_getLast _).symm⟩
    have hy : y.length = m := by
      rw [List.length_append] at hz
      exact Nat.succ.inj hz
    have hx := h x (by simp)
    rw [leadL_snoc]
    exact led_step (ih y hy fun w hw => h w (List.mem_append_left _ hw)) hx.1 hx.2
end Bd
namespace Bd
open PySem PySem.Spec PyProof.Rows L2 HT
/-! ### parts, by marks that run along doors -/
def markStep (M : List Nat) (x : Dc) : List Nat := if 0 < x.2 then (M.set x.1.1 (min (M.getD x.1.1 0) (M.getD x.1.2 0))).set x.1.2 (min (M.getD x.1.1 0) (M.getD x.1.2 0)) else M
def markTurn (z : List Dc) (M : List Nat) : List Nat := z.foldl markStep M
def markTurns (z : List Dc) : Nat → List Nat → List Nat
  | 0, M => M
  | k + 1, M => markTurn z (markTurns z k M)
structure Mkd (n : Nat) (L M : List Nat) : Prop where
  len : M.length = n
  low : ∀ r, r < n → M.getD r 0 ≤ r
  same : ∀ r, r < n → L.getD (M.getD r 0) 0 = L.getD r 0
theorem getD_set {M : List Nat} {a r v : Nat} (h : a < M.length) : (M.set a v).getD r 0 = if r = a then v else M.getD r 0 := by
  rw [List.getD_eq_getElem?_getD, List.getD_eq_getElem?_getD]
  by_cases e : r = a
  · subst e
    rw [List.getElem?_set_self h, if_pos rfl]
    rfl
  · rw [List.getElem?_set_ne (fun q => e q.symm), if_neg e]
theorem getD_step {n : Nat} {M : List Nat} {x : Dc} (h : M.length = n) (ha : x.1.1 < n) (hb : x.1.2 < n) (c : 0 < x.2) (r : Nat) :
    (markStep M x).getD r 0 = if r = x.1.1 ∨ r = x.1.2 then min (M.getD x.1.1 0) (M.getD x.1.2 0) else M.getD r 0 := by
  unfold markStep
  rw [if_pos c, getD_set (by rw [List.length_set, h]; exact hb), getD_set (by rw [h]; exact ha)]
  by_cases e2 : r = x.1.2
  · rw [if_pos e2, if_pos (.inr e2)]
  · by_cases e1 : r = x.1.1
    · rw [if_neg e2, if_pos e1, if_pos (.inl e1)]
    · rw [if_neg e2, if_neg e1, if_neg (fun q => q.elim e1 e2)]
section
variable {n : Nat} {z : List Dc} {L M : List Nat}
theorem Mkd.le (h : Mkd n L M) (hL : Led n z L) {r : Nat} (hr : r < n) : L.getD r 0 ≤ M.getD r 0 := by
  rw [← h.same r hr]
  exact hL.low _ (Nat.lt_of_le_of_lt (h.low r hr) hr)
theorem mkd_step {x : Dc} (h : Mkd n L M) (hL : Led n z L) (hx : x ∈ z) (ha : x.1.1 < n) (hb : x.1.2 < n) : Mkd n L (markStep M x) := by
  by_cases c : 0 < x.2
  · have e := hL.eq x hx c
    have l1 := h.low _ ha
    have l2 := h.low _ hb
    have s1 := h.same _ ha
    have s2 := h.same _ hb
    refine ⟨by unfold markStep; rw [if_pos c, List.length_set, List.length_set]; exact h.len, fun r hr => ?_, fun r hr => ?_⟩
    · rw [getD_step h.len ha hb c]
      split
      · rename_i q
        rcases q with rfl | rfl <;> omega
      · exact h.low r hr
    · rw [getD_step h.len ha hb c]
      split
      · rename_i q
        have hm : min (M.getD x.1.1 0) (M.getD x.1.2 0) = M.getD x.1.1 0 ∨ min (M.getD x.1.1 0) (M.getD x.1.2 0) = M.getD x.1.2 0 := by omega
        rcases hm with hm | hm <;> rw [hm] <;> rcases q with rfl | rfl
        · exact s1
        · rw [s1]; exact e
        · rw [s2]; exact e.symm
        · exact s2
      · exact h.same r hr
  · unfold markStep
    rw [if_neg c]
    exact h
/-- a room that has its leader keeps it -/
theorem keep_step {x : Dc} (h : Mkd n L M) (hL : Led n z L) (hx : x ∈ z) (ha : x.1.1 < n) (hb : x.1.2 < n) {r : Nat} (hr : r < n) (e : M.getD r 0 = L.getD r 0) : (markStep M x).getD r 0 = L.getD r 0 := by
  by_cases c : 0 < x.2
  · have h2 := (mkd_step h hL hx ha hb).le hL hr
    have : (markStep M x).getD r 0 ≤ M.getD r 0 := by
      rw [getD_step h.len ha hb c]
      split
      · rename_i q
        rcases q with rfl | rfl <;> omega
      · exact Nat.le_refl _
    omega
  · unfold markStep
    rw [if_neg c]
    exact e
theorem mkd_fold (hL : Led n z L) (hz : ∀ x ∈ z, x.1.1 < n ∧ x.1.2 < n) : ∀ (y : List Dc), (∀ x ∈ y, x ∈ z) → ∀ M, Mkd n L M → Mkd n L (y.foldl markStep M) ∧ ∀ r, r < n → M.getD r 0 = L.getD r 0 → (y.foldl markStep M).getD r 0 = L.getD r 0
  | [], _, M, h => ⟨h, fun _ _ e => e⟩
  | x :: y, hy, M, h => by
    have hx := hy x List.mem_cons_self
    obtain ⟨ha, hb⟩ := hz x hx
    obtain ⟨h1, h2⟩ := mkd_fold hL hz y (fun w hw => hy w (List.mem_cons_of_mem _ hw)) _ (mkd_step h hL hx ha hb)
    exact ⟨h1, fun r hr e => h2 r hr (keep_step h hL hx ha hb hr e)⟩
/-- across a passed door the leader comes over within a turn -/
theorem turn_over (hL : Led n z L) (hz : ∀ x ∈ z, x.1.1 < n ∧ x.1.2 < n) {M : List Nat} (h : Mkd n L M) {x : Dc} (hx : x ∈ z) (c : 0 < x.2) (e : M.getD x.1.1 0 = L.getD x.1.1 0 ∨ M.getD x.1.2 0 = L.getD x.1.2 0) :
    (markTurn z M).getD x.1.1 0 = L.getD x.1.1 0 ∧ (markTurn z M).getD x.1.2 0 = L.getD x.1.2 0 := by
  obtain ⟨ha, hb⟩ := hz x hx
  obtain ⟨u, v, rfl⟩ := List.append_of_mem hx
  unfold markTurn
  rw [List.foldl_append, List.foldl_cons]
  obtain ⟨h1, k1⟩ := mkd_fold hL hz u (fun w hw => List.mem_append_left _ hw) M h
  have h2 := mkd_step h1 hL hx ha hb
  obtain ⟨h3, k3⟩ := mkd_fold hL hz v (fun w hw => List.mem_append_right _ (List.mem_cons_of_mem _ hw)) _ h2
  have eL := hL.eq x hx c
  have l1 := h1.le hL ha
  have l2 := h1.le hL hb
  have e' : (u.foldl markStep M).getD x.1.1 0 = L.getD x.1.1 0 ∨ (u.foldl markStep M).getD x.1.2 0 = L.getD x.1.2 0 := e.elim (fun q => .inl (k1 _ ha q)) (fun q => .inr (k1 _ hb q))
  refine ⟨k3 _ ha ?_, k3 _ hb ?_⟩
  · rw [getD_step h1.len ha hb c, if_pos (.inl rfl)]; omega
  · rw [getD_step h1.len ha hb c, if_pos (.inr rfl)]; omega
def doneM (n : Nat) (L M : List Nat) : Nat := (List.range n).countP fun r => decide (M.getD r 0 = L.getD r 0)
theorem countP_lt {α : Type} {p q : α → Bool} : ∀ {xs : List α}, (∀ x ∈ xs, p x = true → q x = true) → (∃ x ∈ xs, q x = true ∧ p x = false) → xs.countP p < xs.countP q
  | [], _, h => by obtain ⟨x, hx, _⟩ := h; cases hx
  | x :: xs, h, ⟨y, hy, q1, q2⟩ => by
    have hm : xs.countP p ≤ xs.countP q := List.countP_mono_left fun z hz => h z (List.mem_cons_of_mem _ hz)
    rcases List.mem_cons.mp hy with rfl | hy
    · rw [List.countP_cons_of_pos q1, List.countP_cons_of_neg (by rw [q2]; decide)]
      omega
    · have ih := countP_lt (fun z hz => h z (List.mem_cons_of_mem _ hz)) ⟨y, hy, q1, q2⟩
      by_cases c : p x = true
      · rw [List.countP_cons_of_pos c, List.countP_cons_of_pos (h x List.mem_cons_self c)]
        omega
      · rw [List.countP_cons_of_neg c]
        have : xs.countP q ≤ (x :: xs).countP q := by rw [List.countP_cons]; omega
        omega
theorem turn_more (hL : Led n z L) (hz : ∀ x ∈ z, x.1.1 < n ∧ x.1.2 < n) {M : List Nat} (h : Mkd n L M) (hd : ∃ r, r < n ∧ M.getD r 0 ≠ L.getD r 0) : doneM n L M < doneM n L (markTurn z M) := by
  obtain ⟨h1, k1⟩ := mkd_fold hL hz z (fun _ hw => hw) M h
  unfold doneM
  refine countP_lt (fun r hr e => ?_) ?_
  · exact decide_eq_true (k1 r (List.mem_range.mp hr) (of_decide_eq_true e))
  · -- a passed door between one that has its leader and one that has not
    obtain ⟨r, hr, ne⟩ := hd
    have lead : M.getD (L.getD r 0) 0 = L.getD (L.getD r 0) 0 := by
      have hlt : L.getD r 0 < n := Nat.lt_of_le_of_lt (hL.low r hr) hr
      have a1 := h.low _ hlt
      have a2 := h.le hL hlt
      rw [hL.idem r hr] at a2 ⊢
      omega
    by_cases cl : ∀ x ∈ z, 0 < x.2 → (M.getD x.1.1 0 = L.getD x.1.1 0 ↔ M.getD x.1.2 0 = L.getD x.1.2 0)
    · exact absurd ((hL.con (fun q => M.getD q 0 = L.getD q 0) cl r hr).mpr lead) ne
    · obtain ⟨x, q⟩ := Classical.not_forall.mp cl
      obtain ⟨hx, q⟩ := Classical.not_forall.mp q
      obtain ⟨c, q⟩ := Classical.not_forall.mp q
      obtain ⟨ha, hb⟩ := hz x hx
      by_cases e1 : M.getD x.1.1 0 = L.getD x.1.1 0
      · have e2 : ¬ M.getD x.1.2 0 = L.getD x.1.2 0 := fun e2 => q ⟨fun _ => e2, fun _ => e1⟩
        exact ⟨x.1.2, List.mem_range.mpr hb, decide_eq_true (turn_over hL hz h hx c (.inl e1)).2, decide_eq_false e2⟩
      · by_cases e2 : M.getD x.1.2 0 = L.getD x.1.2 0
        · exact ⟨x.1.1, List.mem_range.mpr ha, decide_eq_true (turn_over hL hz h hx c (.inr e2)).1, decide_eq_false e1⟩
        · exact absurd ⟨fun z => absurd z e1, fun z => absurd z e2⟩ q
theorem turns_done (hL : Led n z L) (hz : ∀ x ∈ z, x.1.1 < n ∧ x.1.2 < n) {M : List Nat} (h : Mkd n L M) : ∀ k, Mkd n L (markTurns z k M) ∧ ((∀ r, r < n → (markTurns z k M).getD r 0 = L.getD r 0) ∨ k ≤ doneM n L (markTurns z k M))
  | 0 => ⟨h, .inr (Nat.zero_le _)⟩
  | k + 1 => by
    obtain ⟨h1, h2⟩ := turns_done hL hz h k
    obtain ⟨h3, k3⟩ := mkd_fold hL hz z (fun _ hw => hw) _ h1
    refine ⟨h3, ?_⟩
    rcases h2 with h2 | h2
    · exact .inl fun r hr => k3 r hr (h2 r hr)
    · by_cases d : ∃ r, r < n ∧ (markTurns z k M).getD r 0 ≠ L.getD r 0
      · exact .inr (Nat.lt_of_le_of_lt h2 (turn_more hL hz h1 d))
      · refine .inl fun r hr => k3 r hr ?_
        exact Classical.byContradiction fun q => d ⟨r, hr, q⟩
/-- after as many turns as rooms the marks are the leaders -/
theorem marks_end (hL : Led n z L) (hz : ∀ x ∈ z, x.1.1 < n ∧ x.1.2 < n) : markTurns z n (List.range n) = L := by
  have h0 : Mkd n L (List.range n) := by
    have e : ∀ r, r < n → (List.range n).getD r 0 = r := fun r h => by
      rw [List.getD_eq_getElem?_getD, List.getElem?_range h]
      rfl
    exact ⟨List.length_range, fun r h => by rw [e r h]; exact Nat.le_refl _, fun r h => by rw [e r h]⟩
  obtain ⟨h1, h2⟩ := turns_done hL hz h0 n
  have all : ∀ r, r < n → (markTurns z n (List.range n)).getD r 0 = L.getD r 0 := by
    rcases h2 with h2 | h2
    · exact h2
    · intro r hr
      refine Classical.byContradiction fun ne => ?_
      have : doneM n L (markTurns z n (List.range n)) < (List.range n).countP (fun _ => true) := by
        unfold doneM
        exact countP_lt (fun _ _ _ => rfl) ⟨r, List.mem_range.mpr hr, rfl, decide_eq_false ne⟩
      rw [List.countP_true, List.length_range] at this
      omega
  apply List.ext_getElem?
  intro i
  by_cases hi : i < n
  · have e := all i hi
    rw [List.getD_eq_getElem?_getD, List.getD_eq_getElem?_getD, List.getElem?_eq_getElem (by rw [h1.len]; exact hi), List.getElem?_eq_getElem (by rw [hL.len]; exact hi)] at e
    rw [List.getElem?_eq_getElem (by rw [h1.len]; exact hi), List.getElem?_eq_getElem (by rw [hL.len]; exact hi)]
    exact congrArg some e
  · rw [List.getElem?_eq_none (by rw [h1.len]; omega), List.getElem?_eq_none (by rw [hL.len]; omega)]
end
/-- the lots, by leaders -/
def lotsOf (n : Nat) (L : List Nat) : List (List Nat) := ((List.range n).filter fun m => decide (m ∈ L)).map fun m => (List.range n).filter fun r => decide (L.getD r 0 = m)
end Bd
namespace Bd
open PySem PySem.Spec PyProof.Rows L2 HT
def lotD (l : List Nat) : PyData := .list ((natsL l).map .int)
def lotsD (ls : List (List Nat)) : PyData := .list (ls.map lotD)
theorem rising_eq : ∀ {xs ys : List Int}, xs.Pairwise (· < ·) → ys.Pairwise (· < ·) → (∀ k, k ∈ xs ↔ k ∈ ys) → xs = ys
  | [], [], _, _, _ => rfl
  | [], y :: ys, _, _, h => absurd ((h y).mpr List.mem_cons_self) (fun q => by cases q)
  | x :: xs, [], _, _, h => absurd ((h x).mp List.mem_cons_self) (fun q => by cases q)
  | x :: xs, y :: ys, h1, h2, h => by
    obtain ⟨a1, a2⟩ := List.pairwise_cons.mp h1
    obtain ⟨b1, b2⟩ := List.pairwise_cons.mp h2
    have e : x = y := by
      rcases List.mem_cons.mp ((h x).mp List.mem_cons_self) with e | e
      · exact e
      · rcases List.mem_cons.mp ((h y).mpr List.mem_cons_self) with e' | e'
        · exact e'.symm
        · have := a1 y e'
          have := b1 x e
          omega
    subst e
    have := rising_eq a2 b2 fun k => by
      constructor
      · intro hk
        rcases List.mem_cons.mp ((h k).mp (List.mem_cons_of_mem _ hk)) with e | e
        · have := a1 k hk
          omega
        · exact e
      · intro hk
        rcases List.mem_cons.mp ((h k).mpr (List.mem_cons_of_mem _ hk)) with e | e
        · have := b1 k hk
          omega
        · exact e
    rw [this]
theorem sort_two {x y : Int} {zs : List Int} (p : zs.Perm [x, y]) (s : zs.Pairwise (· ≤ ·)) : zs = [min x y, max x y] := by
  have hl : zs.length = 2 := p.length_eq
  obtain ⟨a, b, rfl⟩ : ∃ a b, zs = [a, b] := by
    match zs, hl with
    | [a, b], _ => exact ⟨a, b, rfl⟩
  have hab : a ≤ b := by
    have := (List.pairwise_cons.mp s).1 b (by simp)
    exact this
  have m1 := (p.mem_iff (a := a)).mp (by simp)
  have m2 := (p.mem_iff (a := b)).mp (by simp)
  have m3 := (p.mem_iff (a := x)).mpr (by simp)
  have m4 := (p.mem_iff (a := y)).mpr (by simp)
  simp only [List.mem_cons, List.not_mem_nil, or_false] at m1 m2 m3 m4
  have e1 : a = min x y := by omega
  have e2 : b = max x y := by omega
  rw [e1, e2]
theorem range_rising (n : Nat) (p : Nat → Bool) : (natsL ((List.range n).filter p)).Pairwise (· < ·) := by
  unfold natsL
  rw [List.pairwise_map]
  refine List.Pairwise.imp (R := (· < ·)) (fun h => by omega) ?_
  exact List.Pairwise.filter _ List.pairwise_lt_range
theorem nats_mem {r : Nat} {l : List Nat} : (r : Int) ∈ natsL l ↔ r ∈ l := by
  unfold natsL
  rw [List.mem_map]
  constructor
  · rintro ⟨x, hx, e⟩
    have : x = r := by omega
    exact this ▸ hx
  · exact fun h => ⟨r, h, rfl⟩
/-- the leaders that there are, rising -/
def kindsL (n : Nat) (L : List Nat) : List Nat := (List.range n).filter fun m => decide (m ∈ L)
theorem kinds_eq {n : Nat} {L : List Nat} {ns : List Int} (hb : ∀ m ∈ L, m < n) (s : ns.Pairwise (· < ·)) (h : ∀ k : Int, k ∈ ns ↔ decide (k ∈ natsL L) = true) : ns = natsL (kindsL n L) := by
  refine rising_eq s (range_rising n _) fun k => ?_
  rw [h, decide_eq_true_iff]
  constructor
  · intro hk
    obtain ⟨r, hr, rfl⟩ := List.mem_map.mp hk
    exact nats_mem.mpr (List.mem_filter.mpr ⟨List.mem_range.mpr (hb r hr), decide_eq_true hr⟩)
  · intro hk
    obtain ⟨r, hr, rfl⟩ := List.mem_map.mp hk
    exact nats_mem.mpr (of_decide_eq_true (List.mem_filter.mp hr).2)
theorem led_mem {n : Nat} {z : List Dc} {L : List Nat} (h : Led n z L) : ∀ m ∈ L, m < n := fun m hm => by
  obtain ⟨i, hi, e⟩ := List.getElem_of_mem hm
  have hi2 : i < n := by rw [← h.len]; exact hi
  have := h.low i hi2
  rw [List.getD_eq_getElem?_getD, List.getElem?_eq_getElem hi] at this
  have e' : m ≤ i := by rw [← e]; exact this
  omega
theorem kinds_pos {n : Nat} {z : List Dc} {L : List Nat} (h : Led n z L) (hn : 0 < n) : kindsL n L ≠ [] := by
  have h0 : L.getD 0 0 = 0 := Nat.le_zero.mp (h.low 0 hn)
  have hm : 0 ∈ L := by
    have hl : 0 < L.length := by rw [h.len]; exact hn
    rw [List.getD_eq_getElem?_getD, List.getElem?_eq_getElem hl] at h0
    have e : L[0] = 0 := h0
    rw [← e]
    exact List.getElem_mem hl
  intro e
  have : 0 ∈ kindsL n L := List.mem_filter.mpr ⟨List.mem_range.mpr hn, decide_eq_true hm⟩
  rw [e] at this
  cases this
def partsL (n : Nat) (z : List Dc) : List (List Nat) := lotsOf n (leadL n z)
/-- new lists at qs: what each holds -/
def NewLots (H0 H : Hp) (p : Addr) (qs : List Addr) (ls : List (List Nat)) : Prop := Paired (fun q l => H0 q = none ∧ q ≠ p ∧ H q = some (.lst ((natsL l).map V.int))) qs ls
def spParts (K : PySem.W.Frag) : Sp := fun vs H Q _ => ∃ (hv cv : V) (rooms : Nat) (ds : List (Nat × Nat)) (cs : List Int), vs = [hv, cv] ∧ Dp K H hv (houseD rooms ds) ∧ Dp K H cv (.list (cs.map .int)) ∧ rooms ≤ 50 ∧ cs.length = ds.length ∧ ds.length ≤ 500 ∧ Doors rooms ds ∧
  ∀ H' p qs, Same H H' → H p = none → H' p = some (.lst (qs.map V.ref)) → NewLots H H' p qs (partsL rooms (ds.zip cs)) → Q (.ref p) H'
def spMeant (K : PySem.W.Frag) : Sp := fun vs H Q _ => ∃ (dv cv : V) (rooms : Nat) (ds : List (Nat × Nat)) (cs : List Int), vs = [.int rooms, dv, cv] ∧ Dp K H dv (doorsD ds) ∧ Dp K H cv (.list (cs.map .int)) ∧ rooms ≤ 50 ∧ cs.length = ds.length ∧ ds.length ≤ 500 ∧ Doors rooms ds ∧
  ∀ H' p qs, Same H H' → H p = none → H' p = some (.lst (qs.map V.ref)) → NewLots H H' p qs (partsL rooms (ds.zip cs)) → Q (.ref p) H'
theorem newlots_dp {K : PySem.W.Frag} {H0 H : Hp} {p : Addr} : ∀ {qs : List Addr} {ls : List (List Nat)}, NewLots H0 H p qs ls → DpAll K H (qs.map V.ref) (ls.map lotD)
  | _, _, .nil => .nil
  | _, _, .cons h t => .cons (mk_ints h.2.2) (newlots_dp t)
theorem newlots_imp {H0 H0' H H' : Hp} {p p' : Addr} : ∀ {qs : List Addr} {ls : List (List Nat)}, NewLots H0 H p qs ls → (∀ q l, H0 q = none ∧ q ≠ p ∧ H q = some (.lst l) → H0' q = none ∧ q ≠ p' ∧ H' q = some (.lst l)) → NewLots H0' H' p' qs ls
  | _, _, .nil, _ => .nil
  | _, _, .cons h t, f => .cons (f _ _ h) (newlots_imp t f)
theorem newlots_snoc {H0 H : Hp} {p q : Addr} {l : List Nat} : ∀ {qs : List Addr} {ls : List (List Nat)}, NewLots H0 H p qs ls → H0 q = none ∧ q ≠ p ∧ H q = some (.lst ((natsL l).map V.int)) → NewLots H0 H p (qs ++ [q]) (ls ++ [l])
  | _, _, .nil, h => .cons h .nil
  | _, _, .cons h t, h' => .cons h (newlots_snoc t h')
end Bd
namespace Bd
open PySem PySem.Spec PyProof.Rows L2 HT
/-! ### lots that nothing leaves -/
def respB (z : List Dc) (lot : List Nat) : Prop := ∀ x ∈ z, 0 < x.2 → (x.1.1 ∈ lot ↔ x.1.2 ∈ lot)
theorem leaveM_cons (x : Dc) (z : List Dc) (lot : List Nat) : leaveM (x :: z) lot = (if lvAt lot x = true then x.2 else 0) + leaveM z lot := by
  unfold leaveM
  by_cases e : lvAt lot x = true
  · rw [if_pos e, List.filter_cons_of_pos e, List.map_cons, List.sum_cons]
  · rw [if_neg e, List.filter_cons_of_neg e, Int.zero_add]
theorem lv_iff (lot : List Nat) (x : Dc) : lvAt lot x = true ↔ ¬ (x.1.1 ∈ lot ↔ x.1.2 ∈ lot) := by
  unfold lvAt
  by_cases h1 : x.1.1 ∈ lot <;> by_cases h2 : x.1.2 ∈ lot <;> simp [h1, h2]
theorem leave_nonneg (lot : List Nat) : ∀ {z : List Dc}, (∀ x ∈ z, 0 ≤ x.2) → 0 ≤ leaveM z lot
  | [], _ => Int.le_refl _
  | x :: z, h => by
    rw [leaveM_cons]
    have h1 := h x List.mem_cons_self
    have h2 := leave_nonneg lot (z := z) fun y hy => h y (List.mem_cons_of_mem _ hy)
    split <;> omega
theorem leave_zero (lot : List Nat) : ∀ {z : List Dc}, (∀ x ∈ z, 0 ≤ x.2) → (leaveM z lot = 0 ↔ respB z lot)
  | [], _ => ⟨fun _ x hx => (by cases hx), fun _ => rfl⟩
  | x :: z, h => by
    have hz : ∀ y ∈ z, 0 ≤ y.2 := fun y hy => h y (List.mem_cons_of_mem _ hy)
    have h1 := h x List.mem_cons_self
    have h2 := leave_nonneg lot hz
    have ih := leave_zero lot hz
    rw [leaveM_cons]
    constructor
    · intro e
      have e1 : (if lvAt lot x = true then x.2 else 0) = 0 := by
        by_cases hl : lvAt lot x = true
        · rw [if_pos hl] at e ⊢; omega
        · rw [if_neg hl]
      have e2 : leaveM z lot = 0 := by omega
      intro y hy hp
      rcases List.mem_cons.mp hy with rfl | hy
      · refine Classical.byContradiction fun n => ?_
        rw [if_pos ((lv_iff lot y).mpr n)] at e1
        omega
      · exact ih.mp e2 y hy hp
    · intro r
      have e2 := ih.mpr fun y hy => r y (List.mem_cons_of_mem _ hy)
      rw [e2]
      by_cases hl : lvAt lot x = true
      · rw [if_pos hl]
        by_cases hp : 0 < x.2
        · exact absurd (r x List.mem_cons_self hp) ((lv_iff lot x).mp hl)
        · omega
      · rw [if_neg hl]; rfl
theorem led_lt {n : Nat} {z : List Dc} {L : List Nat} (h : Led n z L) {r : Nat} (hr : r < n) : L.getD r 0 < n := Nat.lt_of_le_of_lt (h.low r hr) hr
theorem led_in {n : Nat} {z : List Dc} {L : List Nat} (h : Led n z L) {r : Nat} (hr : r < n) : L.getD r 0 ∈ L := by
  have hl : r < L.length := by rw [h.len]; exact hr
  rw [List.getD_eq_getElem?_getD, List.getElem?_eq_getElem hl]
  exact List.getElem_mem hl
def classL (n : Nat) (L : List Nat) (m : Nat) : List Nat := (List.range n).filter fun r => decide (L.getD r 0 = m)
theorem class_mem {n : Nat} {L : List Nat} {m r : Nat} : r ∈ classL n L m ↔ r < n ∧ L.getD r 0 = m := by
  unfold classL
  rw [List.mem_filter, List.mem_range, decide_eq_true_iff]
theorem lots_mem {n : Nat} {L : List Nat} {one : List Nat} : one ∈ lotsOf n L ↔ ∃ m, m < n ∧ m ∈ L ∧ one = classL n L m := by
  unfold lotsOf
  rw [List.mem_map]
  constructor
  · rintro ⟨m, hm, rfl⟩
    obtain ⟨h1, h2⟩ := List.mem_filter.mp hm
    exact ⟨m, List.mem_range.mp h1, of_decide_eq_true h2, rfl⟩
  · rintro ⟨m, h1, h2, rfl⟩
    exact ⟨m, List.mem_filter.mpr ⟨List.mem_range.mpr h1, decide_eq_true h2⟩, rfl⟩
def inLot (lot one : List Nat) : List Nat := one.filter fun r => decide (r ∈ lot)
theorem filter_all {p : Nat → Bool} : ∀ {l : List Nat}, (∀ r ∈ l, p r = true) → l.filter p = l := fun h => List.filter_eq_self.mpr h
theorem whole_iff {n : Nat} {z : List Dc} {L : List Nat} (h : Led n z L) (hz : ∀ x ∈ z, x.1.1 < n ∧ x.1.2 < n) (lot : List Nat) :
    (∀ one ∈ lotsOf n L, inLot lot one = [] ∨ inLot lot one = one) ↔ respB z lot := by
  constructor
  · intro w x hx hp
    obtain ⟨ha, hb⟩ := hz x hx
    have e := h.eq x hx hp
    have m1 : x.1.1 ∈ classL n L (L.getD x.1.1 0) := class_mem.mpr ⟨ha, rfl⟩
    have m2 : x.1.2 ∈ classL n L (L.getD x.1.1 0) := class_mem.mpr ⟨hb, e.symm⟩
    rcases w _ (lots_mem.mpr ⟨L.getD x.1.1 0, led_lt h ha, led_in h ha, rfl⟩) with q | q
    · have no : ∀ r ∈ classL n L (L.getD x.1.1 0), ¬ r ∈ lot := fun r hr hl => by
        have : r ∈ inLot lot (classL n L (L.getD x.1.1 0)) := List.mem_filter.mpr ⟨hr, decide_eq_true hl⟩
        rw [q] at this
        cases this
      exact ⟨fun a => absurd a (no _ m1), fun a => absurd a (no _ m2)⟩
    · have yes : ∀ r ∈ classL n L (L.getD x.1.1 0), r ∈ lot := fun r hr => by
        rw [← q] at hr
        exact of_decide_eq_true (List.mem_filter.mp hr).2
      exact ⟨fun _ => yes _ m2, fun _ => yes _ m1⟩
  · intro r one ho
    obtain ⟨m, hm, _, rfl⟩ := lots_mem.mp ho
    have c : ∀ q ∈ classL n L m, (q ∈ lot ↔ m ∈ lot) := fun q hq => by
      obtain ⟨hq1, hq2⟩ := class_mem.mp hq
      have := h.con (fun t => t ∈ lot) r q hq1
      rw [hq2] at this
      exact this
    by_cases hl : m ∈ lot
    · exact .inr (filter_all fun q hq => decide_eq_true ((c q hq).mpr hl))
    · refine .inl (List.filter_eq_nil_iff.mpr fun q hq => ?_)
      rw [decide_eq_true_iff]
      exact fun a => hl ((c q hq).mp a)
/-! ### two lots -/
def btwB (one other : List Nat) (x : Dc) : Bool :=
  (decide (x.1.1 ∈ one ∧ ¬ x.1.1 ∈ other) && decide (x.1.2 ∈ other ∧ ¬ x.1.2 ∈ one)) || (decide (x.1.1 ∈ other ∧ ¬ x.1.1 ∈ one) && decide (x.1.2 ∈ one ∧ ¬ x.1.2 ∈ other))
def btwM (z : List Dc) (one other : List Nat) : Int := (z.map fun x => x.2 * (if btwB one other x = true then 1 else 0)).sum
theorem leave_two {one other both shared : List Nat} (hb : ∀ r, r ∈ both ↔ r ∈ one ∨ r ∈ other) (hs : ∀ r, r ∈ shared ↔ r ∈ one ∧ r ∈ other) :
    ∀ z : List Dc, leaveM z one + leaveM z other = leaveM z both + leaveM z shared + 2 * btwM z one other
  | [] => rfl
  | x :: z => by
    have ih := leave_two hb hs z
    have e : btwM (x :: z) one other = x.2 * (if btwB one other x = true then 1 else 0) + btwM z one other := by
      unfold btwM
      rw [List.map_cons, List.sum_cons]
    rw [leaveM_cons, leaveM_cons, leaveM_cons, leaveM_cons, e]
    have k : (if lvAt one x = true then x.2 else 0) + (if lvAt other x = true then x.2 else 0) = (if lvAt both x = true then x.2 else 0) + (if lvAt shared x = true then x.2 else 0) + 2 * (x.2 * (if btwB one other x = true then 1 else 0)) := by
      unfold lvAt btwB
      by_cases a1 : x.1.1 ∈ one <;> by_cases a2 : x.1.1 ∈ other <;> by_cases b1 : x.1.2 ∈ one <;> by_cases b2 : x.1.2 ∈ other <;> simp [hb, hs, a1, a2, b1, b2] <;> omega
    omega
/-! ### more counts -/
theorem parts_in {n : Nat} {z1 z2 : List Dc} {L1 L2 : List Nat} (h1 : Led n z1 L1) (h2 : Led n z2 L2) (h : ∀ x ∈ z1, 0 < x.2 → L2.getD x.1.1 0 = L2.getD x.1.2 0) {one : List Nat} (ho : one ∈ lotsOf n L1) :
    ∃ lot ∈ lotsOf n L2, ∀ r ∈ one, r ∈ lot := by
  obtain ⟨m, hm, hmL, rfl⟩ := lots_mem.mp ho
  refine ⟨classL n L2 (L2.getD m 0), lots_mem.mpr ⟨_, led_lt h2 hm, led_in h2 hm, rfl⟩, fun r hr => ?_⟩
  obtain ⟨hr1, hr2⟩ := class_mem.mp hr
  have := h1.con (fun t => L2.getD t 0 = L2.getD m 0) (fun x hx hp => by rw [h x hx hp]) r hr1
  rw [hr2] at this
  exact class_mem.mpr ⟨hr1, this.mpr rfl⟩
theorem lead_filter (n : Nat) : ∀ z : List Dc, leadL n (z.filter fun x => decide (0 < x.2)) = leadL n z := by
  intro z
  unfold leadL
  generalize List.range n = L
  induction z generalizing L with
  | nil => rfl
  | cons x z ih =>
    by_cases c : 0 < x.2
    · rw [List.filter_cons_of_pos (by exact decide_eq_true c), List.foldl_cons, List.foldl_cons, ih]
    · rw [List.filter_cons_of_neg (by rw [decide_eq_true_iff]; exact c), List.foldl_cons, ih]
      congr 1
      unfold leadStep
      rw [if_neg c]
/-! ### goings -/
def farM (F G : List Int) (lot : List Nat) : Int := (lot.map fun r => G.getD r 0 - F.getD r 0).sum
theorem leave_set {lot : List Nat} : ∀ {ds : List (Nat × Nat)} {cs : List Int} {k : Nat} {d : Nat × Nat} {c : Int}, ds[k]? = some d → cs[k]? = some c →
    leaveM (ds.zip (cs.set k (c + 1))) lot = leaveM (ds.zip cs) lot + (if lvAt lot (d, c) = true then 1 else 0)
  | [], _, k, _, _, h, _ => by simp at h
  | _ :: _, [], k, _, _, _, h => by simp at h
  | e :: ds, b :: cs, 0, d, c, h1, h2 => by
    have e1 : e = d := by simpa using h1
    have e2 : b = c := by simpa using h2
    subst e1 e2
    rw [List.set_cons_zero, List.zip_cons_cons, List.zip_cons_cons, leaveM_cons, leaveM_cons]
    have l : lvAt lot (e, b + 1) = lvAt lot (e, b) := rfl
    rw [l]
    split <;> omega
  | e :: ds, b :: cs, k + 1, d, c, h1, h2 => by
    have ih := leave_set (lot := lot) (ds := ds) (cs := cs) (k := k) (d := d) (c := c) (by simpa using h1) (by simpa using h2)
    rw [List.set_cons_succ, List.zip_cons_cons, List.zip_cons_cons, leaveM_cons, leaveM_cons, ih]
    omega
theorem met_cons (x : Dc) (z : List Dc) (r : Nat) : metAt (x :: z) r = ((if x.1.1 = r then x.2 else 0) + (if x.1.2 = r then x.2 else 0)) + metAt z r := by
  unfold metAt
  rw [List.map_cons, List.sum_cons]
theorem met_set {r : Nat} : ∀ {ds : List (Nat × Nat)} {cs : List Int} {k : Nat} {d : Nat × Nat} {c : Int}, ds[k]? = some d → cs[k]? = some c →
    metAt (ds.zip (cs.set k (c + 1))) r = metAt (ds.zip cs) r + ((if d.1 = r then 1 else 0) + (if d.2 = r then 1 else 0))
  | [], _, k, _, _, h, _ => by simp at h
  | _ :: _, [], k, _, _, _, h => by simp at h
  | e :: ds, b :: cs, 0, d, c, h1, h2 => by
    have e1 : e = d := by simpa using h1
    have e2 : b = c := by simpa using h2
    subst e1 e2
    rw [List.set_cons_zero, List.zip_cons_cons, List.zip_cons_cons, met_cons, met_cons]
    show ((if e.1 = r then b + 1 else 0) + (if e.2 = r then b + 1 else 0)) + _ = ((if e.1 = r then b else 0) + (if e.2 = r then b else 0)) + _ + _
    split <;> split <;> omega
  | e :: ds, b :: cs, k + 1, d, c, h1, h2 => by
    have ih := met_set (r := r) (ds := ds) (cs := cs) (k := k) (d := d) (c := c) (by simpa using h1) (by simpa using h2)
    rw [List.set_cons_succ, List.zip_cons_cons, List.zip_cons_cons, met_cons, met_cons, ih]
    omega
end Bd
namespace Bd
open PySem PySem.Spec PyProof.Rows L2 HT
theorem getD_setI {M : List Int} {a r : Nat} {v : Int} (h : a < M.length) : (M.set a v).getD r 0 = if r = a then v else M.getD r 0 := by
  rw [List.getD_eq_getElem?_getD, List.getD_eq_getElem?_getD]
  by_cases e : r = a
  · subst e
    rw [List.getElem?_set_self h, if_pos rfl]
    rfl
  · rw [List.getElem?_set_ne (fun q => e q.symm), if_neg e]
theorem far_set {F G : List Int} {a : Nat} {v : Int} (h : a < G.length) : ∀ {lot : List Nat}, lot.Nodup → farM F (G.set a v) lot = farM F G lot + (if a ∈ lot then v - G.getD a 0 else 0)
  | [], _ => rfl
  | r :: lot, nd => by
    obtain ⟨n1, n2⟩ := List.nodup_cons.mp nd
    have ih := far_set (F := F) h n2 (v := v)
    unfold farM at ih ⊢
    rw [List.map_cons, List.sum_cons, List.map_cons, List.sum_cons, ih, getD_setI h]
    by_cases e : r = a
    · subst e
      rw [if_pos rfl, if_neg n1, if_pos List.mem_cons_self]
      omega
    · rw [if_neg e]
      by_cases q : a ∈ lot
      · rw [if_pos q, if_pos (List.mem_cons_of_mem _ q)]; omega
      · rw [if_neg q, if_neg (fun z => by rcases List.mem_cons.mp z with z | z; exact e z.symm; exact q z)]; omega
structure Mvd (rooms : Nat) (ds : List (Nat × Nat)) (F G C : List Int) : Prop where
  lf : F.length = rooms
  lg : G.length = rooms
  lc : C.length = ds.length
  pos : ∀ c ∈ C, 0 ≤ c
  far : ∀ lot : List Nat, lot.Nodup → -(leaveM (ds.zip C) lot) ≤ farM F G lot ∧ farM F G lot ≤ leaveM (ds.zip C) lot ∧ (farM F G lot - leaveM (ds.zip C) lot) % 2 = 0
  par : ∀ r : Nat, r < rooms → (F.getD r 0 + G.getD r 0 + metAt (ds.zip C) r) % 2 = 0
theorem zip_zero_leave (lot : List Nat) : ∀ (ds : List (Nat × Nat)) (n : Nat), leaveM (ds.zip (List.replicate n (0 : Int))) lot = 0
  | [], _ => rfl
  | _ :: _, 0 => rfl
  | d :: ds, n + 1 => by
    rw [List.replicate_succ, List.zip_cons_cons, leaveM_cons, zip_zero_leave lot ds n]
    split <;> rfl
theorem zip_zero_met (r : Nat) : ∀ (ds : List (Nat × Nat)) (n : Nat), metAt (ds.zip (List.replicate n (0 : Int))) r = 0
  | [], _ => rfl
  | _ :: _, 0 => rfl
  | d :: ds, n + 1 => by
    rw [List.replicate_succ, List.zip_cons_cons, met_cons, zip_zero_met r ds n]
    show ((if d.1 = r then (0 : Int) else 0) + (if d.2 = r then 0 else 0)) + 0 = 0
    split <;> split <;> rfl
theorem far_self (F : List Int) (lot : List Nat) : farM F F lot = 0 := by
  unfold farM
  induction lot with
  | nil => rfl
  | cons r lot ih => rw [List.map_cons, List.sum_cons, ih]; omega
theorem mvd_start {rooms : Nat} {ds : List (Nat × Nat)} {F : List Int} (h : F.length = rooms) : Mvd rooms ds F F (List.replicate ds.length 0) where
  lf := h
  lg := h
  lc := List.length_replicate
  pos := fun c hc => by rw [(List.mem_replicate.mp hc).2]; exact Int.le_refl _
  far := fun lot _ => by
    have e := far_self F lot
    rw [e, zip_zero_leave]
    exact ⟨Int.le_refl _, Int.le_refl _, rfl⟩
  par := fun r _ => by
    rw [zip_zero_met]
    omega
theorem mvd_step {rooms : Nat} {ds : List (Nat × Nat)} {F G C : List Int} {k one other : Nat} {d : Nat × Nat} {c : Int} (h : Mvd rooms ds F G C) (hd : ds[k]? = some d) (hc : C[k]? = some c)
    (hw : (one = d.1 ∧ other = d.2) ∨ (one = d.2 ∧ other = d.1)) (h1 : one < rooms) (h2 : other < rooms) (hn : one ≠ other) :
    Mvd rooms ds F ((G.set one (G.getD one 0 - 1)).set other (G.getD other 0 + 1)) (C.set k (c + 1)) where
  lf := h.lf
  lg := by rw [List.length_set, List.length_set]; exact h.lg
  lc := by rw [List.length_set]; exact h.lc
  pos := fun x hx => by
    have := h.pos c (List.mem_of_getElem? hc)
    rcases List.mem_or_eq_of_mem_set hx with q | q
    · exact h.pos x q
    · omega
  far := fun lot nd => by
    obtain ⟨a1, a2, a3⟩ := h.far lot nd
    have g1 : one < G.length := by rw [h.lg]; exact h1
    have g2 : other < (G.set one (G.getD one 0 - 1)).length := by rw [List.length_set, h.lg]; exact h2
    have e2 : (G.set one (G.getD one 0 - 1)).getD other 0 = G.getD other 0 := by rw [getD_setI g1, if_neg (fun z => hn z.symm)]
    rw [far_set g2 nd, far_set g1 nd, e2, leave_set hd hc]
    have lv : lvAt lot (d, c) = true ↔ ¬ (one ∈ lot ↔ other ∈ lot) := by
      rw [lv_iff]
      rcases hw with ⟨rfl, rfl⟩ | ⟨rfl, rfl⟩
      · exact Iff.rfl
      · exact not_congr ⟨fun z => z.symm, fun z => z.symm⟩
    by_cases q1 : one ∈ lot <;> by_cases q2 : other ∈ lot
    · rw [if_pos q1, if_pos q2, if_neg (fun z => (lv.mp z) ⟨fun _ => q2, fun _ => q1⟩)]; omega
    · rw [if_pos q1, if_neg q2, if_pos (lv.mpr fun z => q2 (z.mp q1))]; omega
    · rw [if_neg q1, if_pos q2, if_pos (lv.mpr fun z => q1 (z.mpr q2))]; omega
    · rw [if_neg q1, if_neg q2, if_neg (fun z => (lv.mp z) ⟨fun a => absurd a q1, fun a => absurd a q2⟩)]; omega
  par := fun r hr => by
    have a := h.par r hr
    have g1 : one < G.length := by rw [h.lg]; exact h1
    have g2 : other < (G.set one (G.getD one 0 - 1)).length := by rw [List.length_set, h.lg]; exact h2
    rw [getD_setI g2, getD_setI g1, met_set hd hc]
    have m : ((if d.1 = r then (1 : Int) else 0) + (if d.2 = r then 1 else 0)) = (if one = r then 1 else 0) + (if other = r then 1 else 0) := by
      rcases hw with ⟨rfl, rfl⟩ | ⟨rfl, rfl⟩
      · rfl
      · rw [Int.add_comm]
    rw [m]
    by_cases q1 : one = r
    · subst q1
      rw [if_neg hn, if_pos rfl, if_pos rfl, if_neg (fun z => hn z.symm)]
      omega
    · by_cases q2 : other = r
      · subst q2
        rw [if_pos rfl, if_neg q1, if_pos rfl]
        omega
      · rw [if_neg (fun z => q2 z.symm), if_neg (fun z => q1 z.symm), if_neg q1, if_neg q2]
        omega
end Bd
namespace Bd
open PySem PySem.Spec PyProof.Rows L2 HT
section
variable {X : Cx}
/-- x not in a tuple of data of any depth -/
def rNotInT (K : PySem.W.Frag) : R2 := fun x y H Q => ∃ d ds, Dp K H x d ∧ Dp K H y (.tuple ds) ∧ SeqAt.shaped d = true ∧ SeqAt.shaped (.tuple ds) = true ∧ Q (.bl (!ds.any fun z => PyData.eqv z d)) H
theorem op_notInT (hu : X.A.units + 70 < cLine) : OpR X (compareOp .NotIn) (rNotInT X.K) := by
  intro pins s σ H x y v u Q I rx ry h
  obtain ⟨d, ds, hd, he, sd, se, q⟩ := h
  obtain ⟨as, r1⟩ := Dp.reads I d x v hd rx
  obtain ⟨bs, r2⟩ := Dp.reads I (.tuple ds) y u he ry
  have hs : d.depth ≤ 64 := by
    have h : (d.canLay0 && decide (d.depth ≤ 64)) = true := sd
    rw [Bool.and_eq_true] at h
    exact of_decide_eq_true h.2
  exact SeqAt.notIn_tuple_reads r2 r1 (SeqAt.canLay_of_shaped se) (SeqAt.canLay_of_shaped sd) (by have := Nat.min_le_right (PyData.depthAll ds) d.depth; omega) ⟨.bl _, H, I, rfl, q⟩
theorem piK {X : Cx} {tg iter : Expr} (t : TI) (h : PI X tg iter t) : PI X tg iter t := h
theorem in_room {k : Nat} {A : Around} (hr : Room k A) : A.units + 70 < cLine := by have := hr.un; omega
theorem in_room2 {k : Nat} {A : Around} (hr : Room k A) : A.units + 65 < cLine := by have := hr.un; omega
end
/-! lists of lots, laid anew -/
def LL (H0 H : Hp) (qs : List Addr) (ls : List (List Nat)) : Prop := Paired (fun q l => H0 q = none ∧ H q = some (.lst ((natsL l).map V.int))) qs ls
theorem LL.mono {H0 H H' : Hp} {qs : List Addr} {ls : List (List Nat)} (h : LL H0 H qs ls) (k : Same H H') : LL H0 H' qs ls := L2.Paired.mapP h fun _ _ q => ⟨q.1, k _ _ q.2⟩
theorem LL.at {H0 H : Hp} : ∀ {qs : List Addr} {ls : List (List Nat)} {i : Nat} {l : List Nat}, LL H0 H qs ls → ls[i]? = some l → ∃ q, qs[i]? = some q ∧ H0 q = none ∧ H q = some (.lst ((natsL l).map V.int))
  | _, _, i, l, .nil, e => by simp at e
  | _, b :: _, 0, l, .cons h t, e => by
    have e2 : b = l := by simpa using e
    subst e2
    exact ⟨_, rfl, h⟩
  | _, _, i + 1, l, .cons h t, e => by
    obtain ⟨q, e1, h1⟩ := LL.at t (i := i) (by simpa using e)
    exact ⟨q, by simpa using e1, h1⟩
theorem LL.len {H0 H : Hp} {qs : List Addr} {ls : List (List Nat)} (h : LL H0 H qs ls) : qs.length = ls.length := Paired.length h
theorem LL.app {H0 H : Hp} : ∀ {qs ps : List Addr} {ls ms : List (List Nat)}, LL H0 H qs ls → LL H0 H ps ms → LL H0 H (qs ++ ps) (ls ++ ms)
  | _, _, _, _, .nil, h => h
  | _, _, _, _, .cons h t, h2 => .cons h (LL.app t h2)
theorem LL.dps {K : PySem.W.Frag} {H0 H : Hp} : ∀ {qs : List Addr} {ls : List (List Nat)}, LL H0 H qs ls → DpAll K H (qs.map V.ref) (ls.map lotD)
  | _, _, .nil => .nil
  | _, _, .cons h t => .cons (mk_ints h.2) (LL.dps t)
/-- lots of rooms below n -/
def LotsOk (n : Nat) (ls : List (List Nat)) : Prop := ∀ l ∈ ls, l.Nodup ∧ l.length ≤ n ∧ ∀ r ∈ l, r < n
def spLots (K : PySem.W.Frag) : Sp := fun vs H Q _ => ∃ rooms : Nat, vs = [.int rooms] ∧ rooms ≤ 10 ∧
  ∀ H' p qs ls, Same H H' → H p = none → H' p = some (.lst (qs.map V.ref)) → LL H H' qs ls → ls.length = 2 ^ rooms → LotsOk rooms ls → Q (.ref p) H'
end Bd
namespace Bd
open PySem PySem.Spec PyProof.Rows L2 HT
/-! ### the bag of the counted laws: great numbers ahead, then a mixed row -/
def bagM (g : Addr) (m n : Int) : List V := [.ref g, .int m, .int n]
structure Bag2 (H : Hp) (a g : Addr) : Prop where
  ok : ∃ (ls : List Int) (m n : Int), H a = some (.lst (bagM g m n)) ∧ H g = some (.lst (ls.map V.int)) ∧ ls.length ≤ 63 ∧ 0 ≤ m ∧ m < 2 ^ 61
  ne : a ≠ g
theorem Bag2.keep {H H' : Hp} {a g : Addr} (b : Bag2 H a g) (k : Same H H') : Bag2 H' a g := by
  obtain ⟨⟨ls, m, n, h1, h2, h3⟩, ne⟩ := b
  exact ⟨⟨ls, m, n, k _ _ h1, k _ _ h2, h3⟩, ne⟩
theorem Bag2.new {H : Hp} {a g p : Addr} {o : HO} (b : Bag2 H a g) (n : H p = none) : Bag2 (upd H p o) a g := b.keep (same_new n)
theorem Bag2.out {H : Hp} {a g p : Addr} (b : Bag2 H a g) (n : H p = none) : p ∉ [a, g] := by
  obtain ⟨⟨ls, m, k, h1, h2, _⟩, _⟩ := b
  intro z
  simp only [List.mem_cons, List.not_mem_nil, or_false] at z
  rcases z with z | z
  · rw [z, h1] at n; cases n
  · rw [z, h2] at n; cases n
theorem Bag2.wr {H : Hp} {a g p : Addr} {o : HO} (b : Bag2 H a g) (n : p ∉ [a, g]) : Bag2 (upd H p o) a g := by
  obtain ⟨⟨ls, m, k, h1, h2, h3⟩, ne⟩ := b
  simp only [List.mem_cons, List.not_mem_nil, or_false, not_or] at n
  exact ⟨⟨ls, m, k, by rw [upd_ne (Ne.symm n.1)]; exact h1, by rw [upd_ne (Ne.symm n.2)]; exact h2, h3⟩, ne⟩
def spDraw2 : Sp := fun vs H Q _ => ∃ (a g : Addr) (m : Int), vs = [.ref a, .int m] ∧ Bag2 H a g ∧ 0 < m ∧ m < 2 ^ 1000 ∧
  ∀ r H', 0 ≤ r → r < m → Bag2 H' a g → Kp [a, g] H H' → Q (.int r) H'
def spBag2 (K : PySem.W.Frag) : Sp := fun vs H Q _ => ∃ (a : Addr) (ns : List Int), vs = [.ref a] ∧ SqL K H a (ns.map V.int) ∧ ns.length ≤ 63 ∧
  ∀ p g H', Same H H' → H p = none → H g = none → Bag2 H' p g → Q (.ref p) H'
theorem eqv_nil (ls : List Int) : PyData.eqv (.list (ls.map .int)) (.list []) = decide (ls = []) := by
  cases ls with
  | nil => rfl
  | cons x xs => rfl
end Bd
namespace Bd
open PySem PySem.Spec PyProof.Rows L2 HT
section
variable {prog : Program} {w : World} {A : Around} {E : Value → Shared → Prop} {s : Shared} {t : Addr}
/-- sum of a tuple of ints -/
theorem sum_tupI {xs : Array (Int × Tok)} {Q : Value → Shared → Prop} (hh : A.handled = none) (ht : s.heap.IsTuple t (intItems xs))
    (h : ∀ h' tk t', (∀ b o, s.heap.get? b = some o → h'.get? b = some o) → Q (.int (preSum (numAt xs) xs.size) t') { s with heap := h', toks := tk }) : wpAny (model prog w) A (call (.builtin "sum") [.ref t]) Q E s := by
  have lt : t < s.heap.objs.size := by
    obtain ⟨o, e, _⟩ := id ht
    exact Heap.lt_size e
  have sz : (s.heap.push { cls := .type "tuple_iterator", data := .fields #[.ref t, .int 0 0] }).objs.size = s.heap.objs.size + 1 := Heap.size_push ..
  refine call_sum_walkG (wpAny_pyIter_tuple ht ⟨_, [s.heap.objs.size, t], [s.heap.objs.size], _, _, _, numAt xs, rfl, Walks.tuple (A := A.in1) hh _ t (Nat.ne_of_lt lt) (intItems xs), ⟨⟨_, Heap.get?_push_size _ rfl, rfl, rfl⟩, ht.push _⟩, fun b hb => ?_, fun _ _ => intItems_at, fun h' tk t' hk => ?_⟩)
  · show b < (s.heap.push _).objs.size
    rw [sz]
    simp only [List.mem_cons, List.not_mem_nil, or_false] at hb
    rcases hb with e | e
    · rw [e]; exact Nat.lt_succ_self _
    · rw [e]; exact Nat.lt_succ_of_lt lt
  · have old : ∀ b o, s.heap.get? b = some o → h'.get? b = some o := fun b o e => by
      refine hk b o (fun hm => ?_) (Heap.get?_push_of_some _ e)
      have := Heap.lt_size e
      rw [List.mem_singleton.mp hm] at this
      exact absurd this (Nat.lt_irrefl _)
    have := h h' tk t' old
    simpa [intItems] using this
theorem sum_tupN {its : List Value} {ns : List Int} {Q : Value → Shared → Prop} (hh : A.handled = none) (ht : s.heap.IsTuple t its.toArray) (hi : IntsAre its ns)
    (h : ∀ h' tk t', (∀ b o, s.heap.get? b = some o → h'.get? b = some o) → Q (.int ns.sum t') { s with heap := h', toks := tk }) : wpAny (model prog w) A (call (.builtin "sum") [.ref t]) Q E s := by
  obtain ⟨xs, e⟩ := hi.allInts.items
  have hn := hi.numsOf
  rw [show numsOf its = numsOf (intItems xs).toList by rw [← e], nums_intItems] at hn
  rw [e] at ht
  refine sum_tupI hh ht fun h' tk t' hk => ?_
  have r := h h' tk t' hk
  rw [← hn] at r
  rw [preSum_eq, List.take_of_length_le (by simp)]
  exact r
end
section
variable {X : Cx}
def rSumT (K : PySem.W.Frag) : List V → Hp → VK → Prop := fun vs H Q => ∃ (a : Addr) (ns : List Int), vs = [V.ref a] ∧ SqT K H a (ns.map V.int) ∧ Q (.int ns.sum) H
theorem cr_sumT (hc : X.calm = true) : CallR X (.builtin "sum") (rSumT X.K) := by
  intro pins s σ H vs us Q I r h
  obtain ⟨a, ns, rfl, hs, q⟩ := h
  obtain ⟨its, rv, ht, _⟩ := I.tuple hs
  obtain ⟨u, rfl, rx⟩ := vals1 r
  cases (show u = Value.ref a from rx)
  obtain ⟨o, h1, h2, n, h3⟩ := ht
  exact sum_tupN (I.ok.hd hc) ⟨o, h1, h2, n, h3⟩ rv.ints fun h' tk t' hk => ⟨.int _, H, I.kept hk, ⟨_, rfl⟩, q⟩
end
end Bd
namespace Bd
open PySem PySem.Spec PyProof.Rows L2 HT
/-! ## data, lists tracked -/
mutual
inductive Dd (K : PySem.W.Frag) (H : Hp) : V → PyData → Prop
  | non : Dd K H .non .none
  | bl (b : Bool) : Dd K H (.bl b) (.bool b)
  | int (i : Int) : Dd K H (.int i) (.int i)
  | str (x : Str) : Dd K H (.str x) (.str x)
  | lst {a : Addr} {vs : List V} {ds : List PyData} : H a = some (.lst vs) → Dds K H vs ds → Dd K H (.ref a) (.list ds)
  | tup {a : Addr} {vs : List V} {ds : List PyData} : SqT K H a vs → Dds K H vs ds → Dd K H (.ref a) (.tuple ds)
inductive Dds (K : PySem.W.Frag) (H : Hp) : List V → List PyData → Prop
  | nil : Dds K H [] []
  | cons {v : V} {vs : List V} {d : PyData} {ds : List PyData} : Dd K H v d → Dds K H vs ds → Dds K H (v :: vs) (d :: ds)
end
section
variable {K : PySem.W.Frag} {H H' : Hp}
mutual
theorem Dd.same (k : Same H H') : ∀ {d : PyData} {v : V}, Dd K H v d → Dd K H' v d
  | .none, _, h => by cases h; exact .non
  | .bool b, _, h => by cases h; exact .bl b
  | .int i, _, h => by cases h; exact .int i
  | .str x, _, h => by cases h; exact .str x
  | .list ds, _, h => by
    cases h with
    | lst hs ha => exact .lst (k _ _ hs) (Dds.same k ha)
  | .tuple ds, _, h => by
    cases h with
    | tup hs ha => exact .tup (same_tup k hs) (Dds.same k ha)
  | .dict _, _, h => by cases h
theorem Dds.same (k : Same H H') : ∀ {ds : List PyData} {vs : List V}, Dds K H vs ds → Dds K H' vs ds
  | [], _, h => by cases h; exact .nil
  | d :: ds, _, h => by
    cases h with
    | cons h1 h2 => exact .cons (Dd.same k h1) (Dds.same k h2)
end
mutual
theorem Dd.dp : ∀ {d : PyData} {v : V}, Dd K H v d → Dp K H v d
  | .none, _, h => by cases h; exact .non
  | .bool b, _, h => by cases h; exact .bl b
  | .int i, _, h => by cases h; exact .int i
  | .str x, _, h => by cases h; exact .str x
  | .list ds, _, h => by
    cases h with
    | lst hs ha => exact .lst (.inl (.inl hs)) (Dds.dp ha)
  | .tuple ds, _, h => by
    cases h with
    | tup hs ha => exact .tup hs (Dds.dp ha)
  | .dict _, _, h => by cases h
theorem Dds.dp : ∀ {ds : List PyData} {vs : List V}, Dds K H vs ds → DpAll K H vs ds
  | [], _, h => by cases h; exact .nil
  | d :: ds, _, h => by
    cases h with
    | cons h1 h2 => exact .cons (Dd.dp h1) (Dds.dp h2)
end
theorem Dds.len {vs : List V} {ds : List PyData} (h : Dds K H vs ds) : vs.length = ds.length := dps_len h.dp
theorem Dds.at : ∀ {ds : List PyData} {vs : List V} {i : Nat} {d : PyData}, Dds K H vs ds → ds[i]? = some d → ∃ v, vs[i]? = some v ∧ Dd K H v d
  | [], _, i, _, h, e => by simp at e
  | d :: ds, _, 0, _, h, e => by
    cases h with
    | cons h1 h2 => cases e; exact ⟨_, rfl, h1⟩
  | d :: ds, _, i + 1, _, h, e => by
    cases h with
    | cons h1 h2 =>
      obtain ⟨v, h3, h4⟩ := Dds.at h2 (i := i) (by simpa using e)
      exact ⟨v, by simpa using h3, h4⟩
theorem Dds.app : ∀ {ds es : List PyData} {vs us : List V}, Dds K H vs ds → Dds K H us es → Dds K H (vs ++ us) (ds ++ es)
  | [], _, _, _, h, g => by cases h; exact g
  | d :: ds, _, _, _, h, g => by
    cases h with
    | cons h1 h2 => exact .cons h1 (Dds.app h2 g)
theorem Dds.snoc {ds : List PyData} {vs : List V} {v : V} {d : PyData} (h : Dds K H vs ds) (g : Dd K H v d) : Dds K H (vs ++ [v]) (ds ++ [d]) := h.app (.cons g .nil)
theorem Dds.set : ∀ {ds : List PyData} {vs : List V} {i : Nat} {v : V} {d : PyData}, Dds K H vs ds → Dd K H v d → Dds K H (vs.set i v) (ds.set i d)
  | [], _, i, _, _, h, g => by cases h; exact .nil
  | d :: ds, _, 0, _, _, h, g => by
    cases h with
    | cons h1 h2 => exact .cons g h2
  | d :: ds, _, i + 1, _, _, h, g => by
    cases h with
    | cons h1 h2 => exact .cons h1 (Dds.set h2 g)
theorem Dds.drop : ∀ {ds : List PyData} {vs : List V} (n : Nat), Dds K H vs ds → Dds K H (vs.drop n) (ds.drop n)
  | ds, vs, 0, h => by simpa using h
  | [], _, n + 1, h => by cases h; exact .nil
  | d :: ds, _, n + 1, h => by
    cases h with
    | cons h1 h2 => simpa using Dds.drop n h2
theorem Dds.take : ∀ {ds : List PyData} {vs : List V} (n : Nat), Dds K H vs ds → Dds K H (vs.take n) (ds.take n)
  | ds, vs, 0, h => by simpa using Dds.nil
  | [], _, n + 1, h => by cases h; exact .nil
  | d :: ds, _, n + 1, h => by
    cases h with
    | cons h1 h2 => simpa using Dds.cons h1 (Dds.take n h2)
theorem Dds.rev : ∀ {ds : List PyData} {vs : List V}, Dds K H vs ds → Dds K H vs.reverse ds.reverse
  | [], _, h => by cases h; exact .nil
  | d :: ds, _, h => by
    cases h with
    | cons h1 h2 => simpa using (Dds.rev h2).snoc h1
theorem Dds.ints (ns : List Int) : Dds K H (ns.map V.int) (ns.map PyData.int) := by
  induction ns with
  | nil => exact .nil
  | cons n ns ih => exact .cons (.int n) ih
theorem Dds.ints_eq {ns : List Int} {vs : List V} (h : Dds K H vs (ns.map PyData.int)) : vs = ns.map V.int := dps_ints_eq h.dp
theorem Dds.bools_eq : ∀ {bs : List Bool} {vs : List V}, Dds K H vs (bs.map PyData.bool) → vs = bs.map V.bl
  | [], _, h => by cases h; rfl
  | b :: bs, _, h => by
    cases h with
    | cons h1 h2 => cases h1; rw [Dds.bools_eq h2]; rfl
end
/-- the data of a plain value -/
def toD : V → PyData
  | .bl b => .bool b
  | .int i => .int i
  | .str x => .str x
  | _ => .none
def isSc : V → Bool
  | .non => true
  | .bl _ => true
  | .int _ => true
  | .str _ => true
  | _ => false
theorem sc_dd {K : PySem.W.Frag} {H : Hp} : ∀ {v : V}, isSc v = true → Dd K H v (toD v)
  | .non, _ => .non
  | .bl b, _ => .bl b
  | .int i, _ => .int i
  | .str x, _ => .str x
/-- plain data -/
def flatD : PyData → Bool
  | .list _ => false
  | .tuple _ => false
  | .dict _ => false
  | _ => true
theorem flat_dd {K : PySem.W.Frag} {H H' : Hp} : ∀ {d : PyData} {v : V}, flatD d = true → Dd K H v d → Dd K H' v d
  | .none, _, _, h => by cases h; exact .non
  | .bool b, _, _, h => by cases h; exact .bl b
  | .int i, _, _, h => by cases h; exact .int i
  | .str x, _, _, h => by cases h; exact .str x
/-! ## a def's slots -/
inductive Sl
  | un
  | d (x : PyData)
  | own (a : Addr) (xs : List PyData)
  | at (v : V)
def ownA : List Sl → List Addr
  | [] => []
  | .own a _ :: r => a :: ownA r
  | .un :: r => ownA r
  | .d _ :: r => ownA r
  | .at _ :: r => ownA r
theorem mem_ownA {a : Addr} : ∀ {ρ : List Sl}, a ∈ ownA ρ ↔ ∃ (i : Nat) (xs : List PyData), ρ[i]? = some (Sl.own a xs)
  | [] => by simp [ownA]
  | s :: r => by
    have ih := mem_ownA (a := a) (ρ := r)
    cases s with
    | own b ys =>
      show a ∈ b :: ownA r ↔ _
      rw [List.mem_cons, ih]
      constructor
      · rintro (rfl | ⟨i, xs, h⟩)
        · exact ⟨0, ys, rfl⟩
        · exact ⟨i + 1, xs, by simpa using h⟩
      · rintro ⟨i, xs, h⟩
        cases i with
        | zero =>
          have e : Sl.own b ys = Sl.own a xs := Option.some.inj h
          cases e
          exact .inl rfl
        | succ i => right; exact ⟨i, xs, by simpa using h⟩
    | un =>
      show a ∈ ownA r ↔ _
      rw [ih]
      exact ⟨fun ⟨i, xs, h⟩ => ⟨i + 1, xs, by simpa using h⟩, fun ⟨i, xs, h⟩ => by cases i with | zero => simp at h | succ i => exact ⟨i, xs, by simpa using h⟩⟩
    | d x =>
      show a ∈ ownA r ↔ _
      rw [ih]
      exact ⟨fun ⟨i, xs, h⟩ => ⟨i + 1, xs, by simpa using h⟩, fun ⟨i, xs, h⟩ => by cases i with | zero => simp at h | succ i => exact ⟨i, xs, by simpa using h⟩⟩
    | «at» v =>
      show a ∈ ownA r ↔ _
      rw [ih]
      exact ⟨fun ⟨i, xs, h⟩ => ⟨i + 1, xs, by simpa using h⟩, fun ⟨i, xs, h⟩ => by cases i with | zero => simp at h | succ i => exact ⟨i, xs, by simpa using h⟩⟩
def SlOk (K : PySem.W.Frag) (Hh H : Hp) : Sl → Option V → Prop
  | .un, _ => True
  | .d x, u => ∃ v, u = some v ∧ Dd K Hh v x
  | .own a xs, u => u = some (.ref a) ∧ ∃ vs, H a = some (.lst vs) ∧ Dds K Hh vs xs
  | .at v, u => u = some v
/-- what may be changed by calls, and what holds of it -/
structure Wd where
  J : List Addr
  I : Nat → Hp → Prop
  hI : ∀ {ν : Nat} {H H' : Hp}, (∀ a ∈ J, H' a = H a) → I ν H → I ν H'
  hJ : ∀ {ν : Nat} {H : Hp}, I ν H → ∀ a ∈ J, ∃ o, H a = some o
  G : Hp := fun _ => none
structure Sta (K : PySem.W.Frag) (W : Wd) (S : List Addr) (B : Hp) (ρ : List Sl) (σ : L2.St) (H : Hp) (ν : Nat) : Prop where
  len : σ.length = ρ.length
  sl : ∀ (i : Nat) (s : Sl), ρ[i]? = some s → ∃ u, σ[i]? = some u ∧ SlOk K (hid (S ++ ownA ρ) H) H s u
  nd : ∀ (i j : Nat) (a : Addr) (xs ys : List PyData), ρ[i]? = some (Sl.own a xs) → ρ[j]? = some (Sl.own a ys) → i = j
  out : ∀ a ∈ ownA ρ, a ∉ S
  js : ∀ a ∈ W.J, a ∈ S
  fr : Same B (hid (W.J ++ ownA ρ) H)
  inv : W.I ν H
  al : ∀ a ∈ S, a ∈ W.J ∨ ∃ o, B a = some o
  gb : Same W.G B
section
variable {K : PySem.W.Frag} {W : Wd} {S : List Addr} {B : Hp} {ρ : List Sl} {σ : L2.St} {H H' : Hp} {ν ν' : Nat}
theorem Sta.kpS (st : Sta K W S B ρ σ H ν) {T : List Addr} (k : Kp W.J H H') : Kp (S ++ T) H H' := k.mono fun b hb => List.mem_append_left _ (st.js b hb)
theorem Sta.ownJ (st : Sta K W S B ρ σ H ν) {a : Addr} (h : a ∈ ownA ρ) : a ∉ W.J := fun z => st.out a h (st.js a z)
theorem Sta.keep (st : Sta K W S B ρ σ H ν) (k : Kp W.J H H') (i : W.I ν' H') : Sta K W S B ρ σ H' ν' where
  len := st.len
  sl := fun n s e => by
    obtain ⟨u, eu, h⟩ := st.sl n s e
    refine ⟨u, eu, ?_⟩
    cases s with
    | un => trivial
    | d x => obtain ⟨v, e1, h1⟩ := h; exact ⟨v, e1, h1.same (st.kpS k)⟩
    | own a xs =>
      obtain ⟨e1, vs, h1, h2⟩ := h
      exact ⟨e1, vs, k.at h1 (st.ownJ (mem_ownA.mpr ⟨_, _, e⟩)), h2.same (st.kpS k)⟩
    | «at» v => exact h
  nd := st.nd
  out := st.out
  js := st.js
  fr := fun b o e => (Kp.mono k (S' := W.J ++ ownA ρ) fun b hb => List.mem_append_left _ hb) b o (st.fr b o e)
  inv := i
  al := st.al
  gb := st.gb
theorem Sta.fresh (st : Sta K W S B ρ σ H ν) {p : Addr} (n : H p = none) : p ∉ S ∧ p ∉ ownA ρ ∧ p ∉ W.J := by
  have hj : p ∉ W.J := fun z => by
    obtain ⟨o, e⟩ := W.hJ st.inv p z
    rw [n] at e; cases e
  refine ⟨fun z => ?_, fun z => ?_, hj⟩
  · rcases st.al p z with h | ⟨o, h⟩
    · exact hj h
    · have := (of_hid (st.fr _ _ h)).1
      rw [n] at this; cases this
  · obtain ⟨i, xs, e⟩ := mem_ownA.mp z
    obtain ⟨u, _, _, vs, h, _⟩ := st.sl i _ e
    rw [n] at h; cases h
theorem Sta.new (st : Sta K W S B ρ σ H ν) {p : Addr} {o : HO} (n : H p = none) : Kp W.J H (upd H p o) ∧ W.I ν (upd H p o) :=
  ⟨Kp.same (same_new n), W.hI (fun a ha => upd_ne fun e => (st.fresh n).2.2 (e ▸ ha)) st.inv⟩
theorem Sta.slot {i : Nat} {x : PyData} (st : Sta K W S B ρ σ H ν) (h : ρ[i]? = some (.d x)) : ∃ v, σ[i]? = some (some v) ∧ Dd K (hid (S ++ ownA ρ) H) v x := by
  obtain ⟨u, e, v, rfl, d⟩ := st.sl i _ h
  exact ⟨v, e, d⟩
end
/-! ## what a piece of a program is worth, told by data -/
section
variable (K : PySem.W.Frag) (W : Wd) (ρ : List Sl) (ν : Nat)
def De (t : TE) (Φ : Nat → PyData → Prop) : Prop := ∀ S B σ H Q, Sta K W S B ρ σ H ν →
  (∀ ν' v H' x, Kp W.J H H' → W.I ν' H' → Dd K (hid (S ++ ownA ρ) H') v x → Φ ν' x → Q v H') → t σ H Q
/-- a new list -/
def Do (t : TE) (Φ : Nat → List PyData → Prop) : Prop := ∀ S B σ H Q, Sta K W S B ρ σ H ν →
  (∀ ν' a H' vs xs, Kp W.J H H' → W.I ν' H' → H a = none → H' a = some (.lst vs) → Dds K (hid (a :: (S ++ ownA ρ)) H') vs xs → Φ ν' xs → Q (.ref a) H') → t σ H Q
def Dt (t : TT) (Φ : Nat → Bool → Prop) : Prop := ∀ S B σ H Q, Sta K W S B ρ σ H ν → (∀ ν' b H', Kp W.J H H' → W.I ν' H' → Φ ν' b → Q b H') → t σ H Q
def Da (t : TA) (Φ : Nat → List PyData → Prop) : Prop := ∀ S B σ H Q, Sta K W S B ρ σ H ν →
  (∀ ν' vs H' xs, Kp W.J H H' → W.I ν' H' → Dds K (hid (S ++ ownA ρ) H') vs xs → Φ ν' xs → Q vs H') → t σ H Q
end
section
variable {K : PySem.W.Frag} {W : Wd} {ρ : List Sl} {ν : Nat} {ta tb tc : TE} {Φ : Nat → PyData → Prop} {Ψ : Nat → List PyData → Prop}
theorem Do.de (h : Do K W ρ ν ta fun ν1 xs => Φ ν1 (.list xs)) : De K W ρ ν ta Φ := fun S B σ H Q st q => by
  refine h S B σ H Q st fun _ a H' vs xs k i n e d hΦ => ?_
  refine q _ _ _ _ k i (.lst (hid_of e ?_) (d.same (hid_sub fun b hb => List.mem_cons_of_mem _ hb))) hΦ
  have f := st.fresh n
  simp [f.1, f.2.1]
theorem de_var {i : Nat} {x : PyData} (h : ρ[i]? = some (.d x)) (q : Φ ν x) : De K W ρ ν (tVar i) Φ := fun S B σ H Q st k => by
  obtain ⟨v, e, d⟩ := st.slot h
  exact ⟨v, e, k _ v H x Kp.refl st.inv d q⟩
theorem de_c {v : V} (hs : isSc v = true) (q : Φ ν (toD v)) : De K W ρ ν (tC v) Φ := fun S B σ H Q st k => k _ _ _ _ Kp.refl st.inv (sc_dd hs) q
theorem de_rI {C : Int → Int → Prop} {g : Int → Int → V} (hs : ∀ i j, isSc (g i j) = true)
    (h : De K W ρ ν ta fun ν1 x => De K W ρ ν1 tb fun ν2 y => ∃ i j, x = .int i ∧ y = .int j ∧ C i j ∧ Φ ν2 (toD (g i j))) : De K W ρ ν (tOp (rI C g) ta tb) Φ := fun S B σ H Q st q => by
  refine h S B σ H _ st fun _ v H1 x k1 i1 d1 h1 => ?_
  refine h1 S B σ H1 _ (st.keep k1 i1) fun _ w H2 y k2 i2 d2 ⟨i, j, ex, ey, hc, hΦ⟩ => ?_
  subst ex ey; cases d1; cases d2
  exact ⟨i, j, rfl, rfl, hc, q _ _ _ _ (k1.trans k2) i2 (sc_dd (hs i j)) hΦ⟩
theorem de_rI0 {g : Int → Int → V} (hs : ∀ i j, isSc (g i j) = true)
    (h : De K W ρ ν ta fun ν1 x => De K W ρ ν1 tb fun ν2 y => ∃ i j, x = .int i ∧ y = .int j ∧ Φ ν2 (toD (g i j))) : De K W ρ ν (tOp (rI0 g) ta tb) Φ := fun S B σ H Q st q => by
  refine h S B σ H _ st fun _ v H1 x k1 i1 d1 h1 => ?_
  refine h1 S B σ H1 _ (st.keep k1 i1) fun _ w H2 y k2 i2 d2 ⟨i, j, ex, ey, hΦ⟩ => ?_
  subst ex ey; cases d1; cases d2
  exact ⟨i, j, rfl, rfl, q _ _ _ _ (k1.trans k2) i2 (sc_dd (hs i j)) hΦ⟩
theorem de_rU {g : Int → V} (hs : ∀ i, isSc (g i) = true) (h : De K W ρ ν ta fun ν1 x => ∃ i, x = .int i ∧ Φ ν1 (toD (g i))) : De K W ρ ν (tUn (rU g) ta) Φ := fun S B σ H Q st q => by
  refine h S B σ H _ st fun _ v H1 x k1 i1 d1 ⟨i, ex, hΦ⟩ => ?_
  subst ex; cases d1
  exact ⟨i, rfl, q _ _ _ _ k1 i1 (sc_dd (hs i)) hΦ⟩
theorem dec_vi (i j : Int) : decide (V.int i = V.int j) = decide (i = j) := by
  by_cases h : i = j
  · subst h; simp
  · rw [decide_eq_false h, decide_eq_false]
    intro z; exact h (V.int.inj z)
theorem dec_vs (i j : Str) : decide (V.str i = V.str j) = decide (i = j) := by
  by_cases h : i = j
  · subst h; simp
  · rw [decide_eq_false h, decide_eq_false]
    intro z; exact h (V.str.inj z)
theorem de_eqI (h : De K W ρ ν ta fun ν1 x => De K W ρ ν1 tb fun ν2 y => ∃ i j, x = .int i ∧ y = .int j ∧ Φ ν2 (.bool (decide (i = j)))) : De K W ρ ν (tOp rEq ta tb) Φ := fun S B σ H Q st q => by
  refine h S B σ H _ st fun _ v H1 x k1 i1 d1 h1 => ?_
  refine h1 S B σ H1 _ (st.keep k1 i1) fun _ w H2 y k2 i2 d2 ⟨i, j, ex, ey, hΦ⟩ => ?_
  subst ex ey; cases d1; cases d2
  refine ⟨rfl, ?_⟩
  rw [dec_vi]
  exact q _ _ _ _ (k1.trans k2) i2 (.bl _) hΦ
theorem de_neI (h : De K W ρ ν ta fun ν1 x => De K W ρ ν1 tb fun ν2 y => ∃ i j, x = .int i ∧ y = .int j ∧ Φ ν2 (.bool (!decide (i = j)))) : De K W ρ ν (tOp rNe ta tb) Φ := fun S B σ H Q st q => by
  refine h S B σ H _ st fun _ v H1 x k1 i1 d1 h1 => ?_
  refine h1 S B σ H1 _ (st.keep k1 i1) fun _ w H2 y k2 i2 d2 ⟨i, j, ex, ey, hΦ⟩ => ?_
  subst ex ey; cases d1; cases d2
  refine ⟨rfl, ?_⟩
  rw [dec_vi]
  exact q _ _ _ _ (k1.trans k2) i2 (.bl _) hΦ
theorem de_eqS (h : De K W ρ ν ta fun ν1 x => De K W ρ ν1 tb fun ν2 y => ∃ i j, x = .str i ∧ y = .str j ∧ Φ ν2 (.bool (decide (i = j)))) : De K W ρ ν (tOp rEq ta tb) Φ := fun S B σ H Q st q => by
  refine h S B σ H _ st fun _ v H1 x k1 i1 d1 h1 => ?_
  refine h1 S B σ H1 _ (st.keep k1 i1) fun _ w H2 y k2 i2 d2 ⟨i, j, ex, ey, hΦ⟩ => ?_
  subst ex ey; cases d1; cases d2
  refine ⟨rfl, ?_⟩
  rw [dec_vs]
  exact q _ _ _ _ (k1.trans k2) i2 (.bl _) hΦ
theorem de_eqD (h : De K W ρ ν ta fun ν1 x => De K W ρ ν1 tb fun ν2 y => SeqAt.shaped x = true ∧ SeqAt.shaped y = true ∧ Φ ν2 (.bool (PyData.eqv x y))) : De K W ρ ν (tOp (rEqD K) ta tb) Φ := fun S B σ H Q st q => by
  refine h S B σ H _ st fun _ v H1 x k1 i1 d1 h1 => ?_
  refine h1 S B σ H1 _ (st.keep k1 i1) fun _ w H2 y k2 i2 d2 ⟨s1, s2, hΦ⟩ => ?_
  exact ⟨x, y, ((d1.same ((st.keep k1 i1).kpS k2)).same hid_same).dp, (d2.same hid_same).dp, s1, s2, q _ _ _ _ (k1.trans k2) i2 (.bl _) hΦ⟩
theorem de_neD (h : De K W ρ ν ta fun ν1 x => De K W ρ ν1 tb fun ν2 y => SeqAt.shaped x = true ∧ SeqAt.shaped y = true ∧ Φ ν2 (.bool (!PyData.eqv x y))) : De K W ρ ν (tOp (rNeD K) ta tb) Φ := fun S B σ H Q st q => by
  refine h S B σ H _ st fun _ v H1 x k1 i1 d1 h1 => ?_
  refine h1 S B σ H1 _ (st.keep k1 i1) fun _ w H2 y k2 i2 d2 ⟨s1, s2, hΦ⟩ => ?_
  exact ⟨x, y, ((d1.same ((st.keep k1 i1).kpS k2)).same hid_same).dp, (d2.same hid_same).dp, s1, s2, q _ _ _ _ (k1.trans k2) i2 (.bl _) hΦ⟩
theorem any_inv (i : Int) (ns : List Int) : inV (.int i) (ns.map V.int) = decide (i ∈ ns) := by
  unfold inV
  rw [List.any_map]
  induction ns with
  | nil => rfl
  | cons x xs ih =>
    rw [List.any_cons, ih]
    show ((x : Int) == i || decide (i ∈ xs)) = decide (i ∈ x :: xs)
    by_cases h : i = x
    · subst h; simp
    · have h2 : (x == i) = false := by rw [beq_eq_false_iff_ne]; omega
      rw [h2, Bool.false_or]; simp [h]
theorem de_inI {neg : Bool} (h : De K W ρ ν ta fun ν1 x => De K W ρ ν1 tb fun ν2 y => ∃ (i : Int) (ns : List Int), x = .int i ∧ (y = .list (ns.map .int) ∨ y = .tuple (ns.map .int)) ∧ Φ ν2 (.bool (if neg then !decide (i ∈ ns) else decide (i ∈ ns)))) : De K W ρ ν (tOp (rIn K neg) ta tb) Φ := fun S B σ H Q st q => by
  refine h S B σ H _ st fun _ v H1 x k1 i1 d1 h1 => ?_
  refine h1 S B σ H1 _ (st.keep k1 i1) fun _ w H2 y k2 i2 d2 ⟨i, ns, ex, ey, hΦ⟩ => ?_
  subst ex; cases d1
  have fin : ∀ p vs, w = .ref p → (SqL K H2 p vs ∨ SqT K H2 p vs) → vs = ns.map V.int → rIn K neg (.int i) w H2 Q := fun p vs e1 e2 e3 => by
    refine ⟨p, vs, e1, e2, rfl, by rw [e3]; exact flat_ints ns, ?_⟩
    rw [e3, any_inv]
    exact q _ _ _ _ (k1.trans k2) i2 (.bl _) hΦ
  rcases ey with ey | ey
  · subst ey
    cases d2 with
    | lst e d => exact fin _ _ rfl (.inl (.inl (.inl (of_hid e).1))) d.ints_eq
  · subst ey
    cases d2 with
    | tup e d => exact fin _ _ rfl (.inr (same_tup hid_same e)) d.ints_eq
theorem de_not (h : De K W ρ ν ta fun ν1 x => ∃ b, x = .bool b ∧ Φ ν1 (.bool (!b))) : De K W ρ ν (tNotV ta) Φ := fun S B σ H Q st q => by
  refine h S B σ H _ st fun _ v H1 x k1 i1 d1 ⟨b, ex, hΦ⟩ => ?_
  subst ex; cases d1
  exact ⟨b, rfl, q _ _ _ _ k1 i1 (.bl _) hΦ⟩
theorem de_and (h : De K W ρ ν ta fun ν1 x => ∃ b, x = .bool b ∧ (b = true → De K W ρ ν1 tb Φ) ∧ (b = false → Φ ν1 (.bool false))) : De K W ρ ν (tAndV ta tb) Φ := fun S B σ H Q st q => by
  refine h S B σ H _ st fun _ v H1 x k1 i1 d1 ⟨b, ex, ht, hf⟩ => ?_
  subst ex; cases d1
  refine ⟨b, rfl, ?_⟩
  cases b with
  | true => exact ht rfl S B σ H1 Q (st.keep k1 i1) fun _ v H' x k i d hΦ => q _ v H' x (k1.trans k) i d hΦ
  | false => exact q _ _ _ _ k1 i1 (.bl _) (hf rfl)
theorem de_or (h : De K W ρ ν ta fun ν1 x => ∃ b, x = .bool b ∧ (b = true → Φ ν1 (.bool true)) ∧ (b = false → De K W ρ ν1 tb Φ)) : De K W ρ ν (tOrV ta tb) Φ := fun S B σ H Q st q => by
  refine h S B σ H _ st fun _ v H1 x k1 i1 d1 ⟨b, ex, ht, hf⟩ => ?_
  subst ex; cases d1
  refine ⟨b, rfl, ?_⟩
  cases b with
  | true => exact q _ _ _ _ k1 i1 (.bl _) (ht rfl)
  | false => exact hf rfl S B σ H1 Q (st.keep k1 i1) fun _ v H' x k i d hΦ => q _ v H' x (k1.trans k) i d hΦ
theorem de_if {t : TT} (h : Dt K W ρ ν t fun ν1 b => (b = true → De K W ρ ν1 ta Φ) ∧ (b = false → De K W ρ ν1 tb Φ)) : De K W ρ ν (tIf t ta tb) Φ := fun S B σ H Q st q => by
  refine h S B σ H _ st fun _ b H1 k1 i1 ⟨ht, hf⟩ => ?_
  cases b with
  | true => exact ht rfl S B σ H1 Q (st.keep k1 i1) fun _ v H' x k i d hΦ => q _ v H' x (k1.trans k) i d hΦ
  | false => exact hf rfl S B σ H1 Q (st.keep k1 i1) fun _ v H' x k i d hΦ => q _ v H' x (k1.trans k) i d hΦ
/-! tests -/
variable {Χ : Nat → Bool → Prop} {t u : TT}
theorem dt_b (h : De K W ρ ν ta fun ν1 x => ∃ b, x = .bool b ∧ Χ ν1 b) : Dt K W ρ ν (tB ta) Χ := fun S B σ H Q st q => by
  refine h S B σ H _ st fun _ v H1 x k1 i1 d1 ⟨b, ex, hΦ⟩ => ?_
  subst ex; cases d1
  exact ⟨b, rfl, q _ _ _ k1 i1 hΦ⟩
theorem dt_test (h : De K W ρ ν ta fun ν1 x => ∃ b, x = .bool b ∧ Χ ν1 b) : Dt K W ρ ν (tTest ta) Χ := dt_b h
theorem dt_not (h : Dt K W ρ ν t fun ν1 b => Χ ν1 (!b)) : Dt K W ρ ν (tNot t) Χ := fun S B σ H Q st q => h S B σ H _ st fun _ b H1 k i hΦ => q _ _ _ k i hΦ
theorem dt_and (h : Dt K W ρ ν t fun ν1 b => (b = true → Dt K W ρ ν1 u Χ) ∧ (b = false → Χ ν1 false)) : Dt K W ρ ν (tAnd t u) Χ := fun S B σ H Q st q => by
  refine h S B σ H _ st fun _ b H1 k1 i1 ⟨ht, hf⟩ => ?_
  cases b with
  | true => exact ht rfl S B σ H1 Q (st.keep k1 i1) fun _ v H' k i hΦ => q _ v H' (k1.trans k) i hΦ
  | false => exact q _ _ _ k1 i1 (hf rfl)
theorem dt_or (h : Dt K W ρ ν t fun ν1 b => (b = true → Χ ν1 true) ∧ (b = false → Dt K W ρ ν1 u Χ)) : Dt K W ρ ν (tOr t u) Χ := fun S B σ H Q st q => by
  refine h S B σ H _ st fun _ b H1 k1 i1 ⟨ht, hf⟩ => ?_
  cases b with
  | true => exact q _ _ _ k1 i1 (ht rfl)
  | false => exact hf rfl S B σ H1 Q (st.keep k1 i1) fun _ v H' k i hΦ => q _ v H' (k1.trans k) i hΦ
theorem dt_yes (h : Χ ν true) : Dt K W ρ ν tYes Χ := fun S B σ H Q st q => q _ _ _ Kp.refl st.inv h
theorem de_chain {g g' : Int → Int → Bool}
    (h : De K W ρ ν ta fun ν1 x => De K W ρ ν1 tb fun ν2 y => ∃ i j, x = .int i ∧ y = .int j ∧ (g i j = true → De K W ρ ν2 tc fun ν3 z => ∃ k, z = .int k ∧ Φ ν3 (.bool (g' j k))) ∧ (g i j = false → Φ ν2 (.bool false))) :
    De K W ρ ν (tChain (rI0 fun i j => .bl (g i j)) (rI0 fun i j => .bl (g' i j)) ta tb tc) Φ := fun S B σ H Q st q => by
  refine h S B σ H _ st fun _ v H1 x k1 i1 d1 h1 => ?_
  refine h1 S B σ H1 _ (st.keep k1 i1) fun _ w H2 y k2 i2 d2 ⟨i, j, ex, ey, ht, hf⟩ => ?_
  subst ex ey; cases d1; cases d2
  refine ⟨i, j, rfl, rfl, g i j, rfl, ?_⟩
  have k12 := k1.trans k2
  cases e : g i j with
  | true =>
    refine ht e S B σ H2 _ (st.keep k12 i2) fun _ u H3 z k3 i3 d3 ⟨k, ez, hΦ⟩ => ?_
    subst ez; cases d3
    exact ⟨j, k, rfl, rfl, q _ _ _ _ (k12.trans k3) i3 (.bl _) hΦ⟩
  | false => exact q _ _ _ _ k12 i2 (.bl _) (hf e)
/-! arguments, tuples, lists -/
theorem da_nil (h : Ψ ν []) : Da K W ρ ν tNil Ψ := fun S B σ H Q st q => q _ _ _ _ Kp.refl st.inv .nil h
theorem da_cons {tr : TA} (h : De K W ρ ν ta fun ν1 x => Da K W ρ ν1 tr fun ν2 xs => Ψ ν2 (x :: xs)) : Da K W ρ ν (tCons ta tr) Ψ := fun S B σ H Q st q => by
  refine h S B σ H _ st fun _ v H1 x k1 i1 d1 h1 => ?_
  refine h1 S B σ H1 _ (st.keep k1 i1) fun _ vs H2 xs k2 i2 d2 hΨ => ?_
  exact q _ _ _ _ (k1.trans k2) i2 (.cons (d1.same ((st.keep k1 i1).kpS k2)) d2) hΨ
theorem hid_new {T : List Addr} {H : Hp} {p : Addr} {o : HO} (n : H p = none) : Same (hid T H) (hid (p :: T) (upd H p o)) := fun b u e => by
  obtain ⟨e1, e2⟩ := of_hid e
  have nb : b ≠ p := fun z => by rw [z, n] at e1; cases e1
  exact hid_of (by rw [upd_ne nb]; exact e1) (by simp [nb, e2])
theorem hid_new' {T : List Addr} {H : Hp} {p : Addr} {o : HO} (n : H p = none) : Same (hid T H) (hid T (upd H p o)) := (hid_new n).trans (hid_sub fun b hb => List.mem_cons_of_mem _ hb)
theorem de_tup {tr : TA} (h : Da K W ρ ν tr fun ν1 xs => xs.length ≤ sizeLine ∧ Φ ν1 (.tuple xs)) : De K W ρ ν (tTup tr) Φ := fun S B σ H Q st q => by
  refine h S B σ H _ st fun _ vs H1 xs k1 i1 d1 ⟨hl, hΦ⟩ => ⟨by rw [d1.len]; exact hl, fun p np => ?_⟩
  have st1 := st.keep k1 i1
  have f := st1.fresh np
  exact q _ _ _ _ (k1.trans (st1.new np).1) (st1.new np).2 (.tup (.inl (.inl (hid_of upd_same (by simp [f.1, f.2.1])))) (d1.same (hid_new' np))) hΦ
theorem Kp.none {J : List Addr} {H H1 : Hp} {p : Addr} (k : Kp J H H1) (hj : p ∉ J) (n : H1 p = none) : H p = none := by
  cases e : H p with
  | none => rfl
  | some o => rw [k.at e hj] at n; cases n
theorem do_lst {tr : TA} (h : Da K W ρ ν tr fun ν1 xs => xs.length ≤ sizeLine ∧ Ψ ν1 xs) : Do K W ρ ν (tLst tr) Ψ := fun S B σ H Q st q => by
  refine h S B σ H _ st fun _ vs H1 xs k1 i1 d1 ⟨hl, hΨ⟩ => ⟨by rw [d1.len]; exact hl, fun p np => ?_⟩
  have st1 := st.keep k1 i1
  have f := st1.fresh np
  exact q _ _ _ _ _ (k1.trans (st1.new np).1) (st1.new np).2 (k1.none f.2.2 np) upd_same (d1.same (hid_new np)) hΨ
/-- the item of a place, counted from behind where below 0 -/
def atD (xs : List PyData) (i : Int) : Option PyData := (ixN xs.length i).bind fun j => xs[j]?
theorem atD_nat {xs : List PyData} {j : Nat} {d : PyData} (h : xs[j]? = some d) : atD xs (j : Int) = some d := by
  unfold atD
  rw [ixN_nat (lt_of_at h)]
  exact h
theorem Dds.atI {H : Hp} {vs : List V} {xs : List PyData} {i : Int} {d : PyData} (h : Dds K H vs xs) (e : atD xs i = some d) : ∃ v, atI vs i = some v ∧ Dd K H v d := by
  unfold atD at e
  unfold L2.atI
  rw [h.len]
  cases c : ixN xs.length i with
  | none => rw [c] at e; cases e
  | some j =>
    rw [c] at e
    exact h.at e
theorem de_ixL (h : De K W ρ ν ta fun ν1 x => De K W ρ ν1 tb fun ν2 y => ∃ xs i d, x = .list xs ∧ y = .int i ∧ atD xs i = some d ∧ Φ ν2 d) : De K W ρ ν (tOp (rIxL K) ta tb) Φ := fun S B σ H Q st q => by
  refine h S B σ H _ st fun _ v H1 x k1 i1 d1 h1 => ?_
  refine h1 S B σ H1 _ (st.keep k1 i1) fun _ w H2 y k2 i2 d2 ⟨xs, i, d, ex, ey, ed, hΦ⟩ => ?_
  subst ex ey; cases d2
  cases d1.same ((st.keep k1 i1).kpS k2) with
  | lst e ds =>
    obtain ⟨u, eu, du⟩ := ds.atI ed
    exact ⟨_, _, i, u, rfl, rfl, .inl (.inl (of_hid e).1), eu, q _ _ _ _ (k1.trans k2) i2 du hΦ⟩
theorem de_ixT (h : De K W ρ ν ta fun ν1 x => De K W ρ ν1 tb fun ν2 y => ∃ xs i d, x = .tuple xs ∧ y = .int i ∧ atD xs i = some d ∧ Φ ν2 d) : De K W ρ ν (tOp (rIxT K) ta tb) Φ := fun S B σ H Q st q => by
  refine h S B σ H _ st fun _ v H1 x k1 i1 d1 h1 => ?_
  refine h1 S B σ H1 _ (st.keep k1 i1) fun _ w H2 y k2 i2 d2 ⟨xs, i, d, ex, ey, ed, hΦ⟩ => ?_
  subst ex ey; cases d2
  cases d1.same ((st.keep k1 i1).kpS k2) with
  | tup e ds =>
    obtain ⟨u, eu, du⟩ := ds.atI ed
    exact ⟨_, _, i, u, rfl, rfl, same_tup hid_same e, eu, q _ _ _ _ (k1.trans k2) i2 du hΦ⟩
/-- an item of an own list -/
theorem de_ixO {j : Nat} {a : Addr} {xs : List PyData} (ho : ρ[j]? = some (.own a xs)) (h : De K W ρ ν tb fun ν1 y => ∃ i d, y = .int i ∧ atD xs i = some d ∧ Φ ν1 d) : De K W ρ ν (tOp (rIxL K) (tVar j) tb) Φ := fun S B σ H Q st q => by
  obtain ⟨u, eu, e1, vs, e2, d⟩ := st.sl j _ ho
  refine ⟨.ref a, by rw [eu, e1], h S B σ H _ st fun _ w H2 y k2 i2 d2 ⟨i, z, ey, ed, hΦ⟩ => ?_⟩
  subst ey; cases d2
  have st2 := st.keep k2 i2
  obtain ⟨u', eu', du⟩ := (d.same (st.kpS k2)).atI ed
  exact ⟨a, vs, i, u', rfl, rfl, .inl (.inl (k2.at e2 (st.ownJ (mem_ownA.mpr ⟨_, _, ho⟩)))), eu', q _ _ _ _ k2 i2 du hΦ⟩
theorem do_cat (h : De K W ρ ν ta fun ν1 x => De K W ρ ν1 tb fun ν2 y => ∃ xs ys, x = .list xs ∧ y = .list ys ∧ xs.length + ys.length ≤ sizeLine ∧ Ψ ν2 (xs ++ ys)) : Do K W ρ ν (tOp rCat ta tb) Ψ := fun S B σ H Q st q => by
  refine h S B σ H _ st fun _ v H1 x k1 i1 d1 h1 => ?_
  refine h1 S B σ H1 _ (st.keep k1 i1) fun _ w H2 y k2 i2 d2 ⟨xs, ys, ex, ey, hl, hΨ⟩ => ?_
  subst ex ey
  have st2 := st.keep (k1.trans k2) i2
  cases d1.same ((st.keep k1 i1).kpS k2) with
  | lst e ds =>
    cases d2 with
    | lst e2 ds2 =>
      refine ⟨_, _, _, _, rfl, rfl, (of_hid e).1, (of_hid e2).1, by rw [ds.len, ds2.len]; exact hl, fun p np => ?_⟩
      have f := st2.fresh np
      exact q _ _ _ _ _ ((k1.trans k2).trans (st2.new np).1) (st2.new np).2 ((k1.trans k2).none f.2.2 np) upd_same ((ds.app ds2).same (hid_new np)) hΨ
theorem de_catT (h : De K W ρ ν ta fun ν1 x => De K W ρ ν1 tb fun ν2 y => ∃ xs ys, x = .tuple xs ∧ y = .tuple ys ∧ xs ≠ [] ∧ ys ≠ [] ∧ xs.length + ys.length ≤ sizeLine ∧ Φ ν2 (.tuple (xs ++ ys))) : De K W ρ ν (tOp (rCatT K) ta tb) Φ := fun S B σ H Q st q => by
  refine h S B σ H _ st fun _ v H1 x k1 i1 d1 h1 => ?_
  refine h1 S B σ H1 _ (st.keep k1 i1) fun _ w H2 y k2 i2 d2 ⟨xs, ys, ex, ey, n1, n2, hl, hΦ⟩ => ?_
  subst ex ey
  have st2 := st.keep (k1.trans k2) i2
  cases d1.same ((st.keep k1 i1).kpS k2) with
  | tup e ds =>
    cases d2 with
    | tup e2 ds2 =>
      refine ⟨_, _, _, _, rfl, rfl, same_tup hid_same e, same_tup hid_same e2, fun z => n1 (by rw [z] at ds; cases ds; rfl), by rw [ds.len, ds2.len]; exact hl, fun z => absurd (by rw [z] at ds2; cases ds2; rfl) n2, fun _ p np => ?_⟩
      have f := st2.fresh np
      exact q _ _ _ _ ((k1.trans k2).trans (st2.new np).1) (st2.new np).2 (.tup (.inl (.inl (hid_of upd_same (by simp [f.1, f.2.1])))) ((ds.app ds2).same (hid_new' np))) hΦ
theorem flat_repD : ∀ (n : Nat) {H : Hp} {vs : List V} {xs : List PyData}, Dds K H vs xs → Dds K H (List.replicate n vs).flatten (List.replicate n xs).flatten
  | 0, _, _, _, _ => .nil
  | n + 1, _, _, _, h => by
    rw [List.replicate_succ, List.flatten_cons, List.replicate_succ, List.flatten_cons]
    exact h.app (flat_repD n h)
theorem do_rep (h : De K W ρ ν ta fun ν1 x => De K W ρ ν1 tb fun ν2 y => ∃ xs k, x = .list xs ∧ y = .int k ∧ -(2 ^ 63) ≤ k ∧ k < 2 ^ 63 ∧ xs.length * k.toNat ≤ sizeLine ∧ Ψ ν2 (List.replicate k.toNat xs).flatten) : Do K W ρ ν (tOp rRep ta tb) Ψ := fun S B σ H Q st q => by
  refine h S B σ H _ st fun _ v H1 x k1 i1 d1 h1 => ?_
  refine h1 S B σ H1 _ (st.keep k1 i1) fun _ w H2 y k2 i2 d2 ⟨xs, k, ex, ey, g1, g2, g3, hΨ⟩ => ?_
  subst ex ey; cases d2
  have st2 := st.keep (k1.trans k2) i2
  cases d1.same ((st.keep k1 i1).kpS k2) with
  | lst e ds =>
    refine ⟨_, _, _, rfl, rfl, (of_hid e).1, g1, g2, by rw [ds.len]; exact g3, fun p np => ?_⟩
    have f := st2.fresh np
    exact q _ _ _ _ _ ((k1.trans k2).trans (st2.new np).1) (st2.new np).2 ((k1.trans k2).none f.2.2 np) upd_same ((flat_repD _ ds).same (hid_new np)) hΨ
end
end Bd
namespace Bd
open PySem PySem.Spec PyProof.Rows L2 HT
theorem hid_congr {T T' : List Addr} {H : Hp} (h : ∀ b, b ∈ T ↔ b ∈ T') : hid T H = hid T' H := by
  funext b
  unfold hid
  by_cases e : b ∈ T
  · rw [if_pos e, if_pos ((h b).mp e)]
  · rw [if_neg e, if_neg fun z => e ((h b).mpr z)]
def nOwn (ρ : List Sl) (i : Nat) : Bool := match ρ[i]? with
  | some (.own _ _) => false
  | _ => true
def nOwnS : Sl → Bool
  | .own _ _ => false
  | _ => true
theorem ownA_set : ∀ {ρ : List Sl} {i : Nat} {s : Sl}, nOwn ρ i = true → nOwnS s = true → ownA (ρ.set i s) = ownA ρ
  | [], _, _, _, _ => rfl
  | r :: ρ, 0, s, h, h' => by
    cases r <;> cases s <;> first | rfl | (simp [nOwn] at h; done) | (simp [nOwnS] at h'; done)
  | r :: ρ, i + 1, s, h, h' => by
    have ih := ownA_set (ρ := ρ) (i := i) (s := s) (by simpa [nOwn] using h) h'
    cases r <;> simp [ownA, ih]
theorem ownA_setSame : ∀ {ρ : List Sl} {i : Nat} {a : Addr} {xs ys : List PyData}, ρ[i]? = some (.own a xs) → ownA (ρ.set i (.own a ys)) = ownA ρ
  | [], _, _, _, _, h => by simp at h
  | r :: ρ, 0, a, xs, ys, h => by
    have e : r = .own a xs := Option.some.inj h
    subst e; rfl
  | r :: ρ, i + 1, a, xs, ys, h => by
    have ih := ownA_setSame (ρ := ρ) (i := i) (a := a) (xs := xs) (ys := ys) (by simpa using h)
    cases r <;> simp [ownA, ih]
theorem get_set {ρ : List Sl} {i j : Nat} {s u : Sl} (h : (ρ.set i s)[j]? = some u) : (i = j ∧ u = s) ∨ (i ≠ j ∧ ρ[j]? = some u) := by
  by_cases e : i = j
  · subst e
    rw [List.getElem?_set_self' ] at h
    cases c : ρ[i]? with
    | none => rw [c] at h; cases h
    | some z => rw [c] at h; exact .inl ⟨rfl, (Option.some.inj h).symm⟩
  · rw [List.getElem?_set_ne e] at h
    exact .inr ⟨e, h⟩
theorem nOwn_of {ρ : List Sl} {i : Nat} {a : Addr} {xs : List PyData} (h : nOwn ρ i = true) (e : ρ[i]? = some (Sl.own a xs)) : False := by
  unfold nOwn at h
  rw [e] at h
  cases h
section
variable {K : PySem.W.Frag} {W : Wd} {S : List Addr} {B : Hp} {ρ : List Sl} {σ : L2.St} {H H' : Hp} {ν : Nat}
theorem Sta.ltl (st : Sta K W S B ρ σ H ν) {i : Nat} (h : i < ρ.length) : i < σ.length := by rw [st.len]; exact h
/-- a slot that owns nothing is set -/
theorem Sta.setS (st : Sta K W S B ρ σ H ν) {i : Nat} {s : Sl} {u : Option V} (n : nOwn ρ i = true) (ns : nOwnS s = true) (ok : SlOk K (hid (S ++ ownA ρ) H) H s u) : Sta K W S B (ρ.set i s) (σ.set i u) H ν := by
  have eo : ownA (ρ.set i s) = ownA ρ := ownA_set n ns
  refine ⟨by rw [List.length_set, List.length_set, st.len], fun j r e => ?_, fun j k a xs ys e1 e2 => ?_, by rw [eo]; exact st.out, st.js, by rw [eo]; exact st.fr, st.inv, st.al, st.gb⟩
  · rw [eo]
    rcases get_set e with ⟨rfl, rfl⟩ | ⟨ne, e'⟩
    · refine ⟨u, ?_, ok⟩
      have hi : i < ρ.length := by have := lt_of_at e; rw [List.length_set] at this; exact this
      rw [List.getElem?_set_self (st.ltl hi)]
    · obtain ⟨w, ew, h⟩ := st.sl j r e'
      exact ⟨w, by rw [List.getElem?_set_ne ne]; exact ew, h⟩
  · rcases get_set e1 with ⟨_, z⟩ | ⟨_, e1⟩
    · rw [← z] at ns; cases ns
    rcases get_set e2 with ⟨_, z⟩ | ⟨_, e2⟩
    · rw [← z] at ns; cases ns
    exact st.nd j k a xs ys e1 e2
theorem Sta.setD (st : Sta K W S B ρ σ H ν) {i : Nat} {x : PyData} {v : V} (n : nOwn ρ i = true) (d : Dd K (hid (S ++ ownA ρ) H) v x) : Sta K W S B (ρ.set i (.d x)) (σ.set i (some v)) H ν := st.setS n rfl ⟨v, rfl, d⟩
/-- .. by a new list -/
theorem Sta.setO (st : Sta K W S B ρ σ H ν) {i : Nat} {a : Addr} {vs : List V} {xs : List PyData} (n : nOwn ρ i = true) (hi : i < ρ.length) (hS : a ∉ S) (ho : a ∉ ownA ρ) (hB : B a = none) (e : H a = some (.lst vs)) (d : Dds K (hid (a :: (S ++ ownA ρ)) H) vs xs) :
    (∀ (j : Nat) (x : PyData), ρ[j]? = some (.d x) → j ≠ i → ∀ v, σ[j]? = some (some v) → Dd K (hid (a :: (S ++ ownA ρ)) H) v x) → (∀ (j : Nat) (b : Addr) (ys : List PyData), ρ[j]? = some (.own b ys) → ∀ us, H b = some (.lst us) → Dds K (hid (a :: (S ++ ownA ρ)) H) us ys) → Sta K W S B (ρ.set i (.own a xs)) (σ.set i (some (.ref a))) H ν := by
  intro hd hw
  have mo : ∀ b, b ∈ ownA (ρ.set i (.own a xs)) ↔ b = a ∨ b ∈ ownA ρ := fun b => by
    rw [mem_ownA, mem_ownA]
    constructor
    · rintro ⟨j, ys, h⟩
      rcases get_set h with ⟨_, z⟩ | ⟨_, h⟩
      · cases z; exact .inl rfl
      · exact .inr ⟨j, ys, h⟩
    · rintro (rfl | ⟨j, ys, h⟩)
      · exact ⟨i, xs, by rw [List.getElem?_set_self hi]⟩
      · refine ⟨j, ys, ?_⟩
        rw [List.getElem?_set_ne (fun z => nOwn_of n (z ▸ h))]
        exact h
  have eh : hid (S ++ ownA (ρ.set i (.own a xs))) H = hid (a :: (S ++ ownA ρ)) H := hid_congr fun b => by
    simp only [List.mem_append, List.mem_cons, mo]
    constructor
    · rintro (h | h | h) <;> simp [h]
    · rintro (h | h | h) <;> simp [h]
  have hJ : a ∉ W.J := fun z => hS (st.js a z)
  refine ⟨by rw [List.length_set, List.length_set, st.len], fun j r e' => ?_, fun j k b ys zs e1 e2 => ?_, fun b hb => ?_, st.js, fun b o eb => ?_, st.inv, st.al, st.gb⟩
  · rw [eh]
    rcases get_set e' with ⟨rfl, rfl⟩ | ⟨ne, e''⟩
    · exact ⟨_, List.getElem?_set_self (st.ltl hi), rfl, vs, e, d⟩
    · obtain ⟨w, ew, h⟩ := st.sl j r e''
      refine ⟨w, by rw [List.getElem?_set_ne ne]; exact ew, ?_⟩
      cases r with
      | un => trivial
      | d x =>
        obtain ⟨v, rfl, h⟩ := h
        exact ⟨v, rfl, hd j x e'' (Ne.symm ne) v ew⟩
      | own b ys =>
        obtain ⟨e1, us, e2, _⟩ := h
        exact ⟨e1, us, e2, hw j b ys e'' us e2⟩
      | «at» v => exact h
  · rcases get_set e1 with ⟨z1, z⟩ | ⟨n1, e1⟩
    · cases z
      rcases get_set e2 with ⟨z2, _⟩ | ⟨_, e2⟩
      · exact z1.symm.trans z2
      · exact absurd (mem_ownA.mpr ⟨_, _, e2⟩) ho
    · rcases get_set e2 with ⟨z2, z⟩ | ⟨_, e2⟩
      · cases z
        exact absurd (mem_ownA.mpr ⟨_, _, e1⟩) ho
      · exact st.nd j k b ys zs e1 e2
  · rcases (mo b).mp hb with rfl | h
    · exact hS
    · exact st.out b h
  · obtain ⟨f1, f2⟩ := of_hid (st.fr b o eb)
    refine hid_of f1 ?_
    rw [List.mem_append, mo]
    rintro (h | rfl | h)
    · exact f2 (List.mem_append_left _ h)
    · rw [hB] at eb; cases eb
    · exact f2 (List.mem_append_right _ h)
/-- an own list, as plain data from now on -/
theorem Sta.freeze (st : Sta K W S B ρ σ H ν) {i : Nat} {a : Addr} {xs : List PyData} (h : ρ[i]? = some (.own a xs)) : Sta K W S B (ρ.set i (.d (.list xs))) σ H ν := by
  have hi : i < ρ.length := lt_of_at h
  have mo : ∀ b, b ∈ ownA (ρ.set i (.d (.list xs))) ↔ b ≠ a ∧ b ∈ ownA ρ := fun b => by
    rw [mem_ownA, mem_ownA]
    constructor
    · rintro ⟨j, ys, e⟩
      rcases get_set e with ⟨_, z⟩ | ⟨ne, e⟩
      · cases z
      · refine ⟨?_, j, ys, e⟩
        rintro rfl
        exact ne (st.nd _ _ _ _ _ h e)
    · rintro ⟨ne, j, ys, e⟩
      refine ⟨j, ys, ?_⟩
      rw [List.getElem?_set_ne (fun z => ne (by rw [← z, h] at e; cases e; rfl))]
      exact e
  have sub : ∀ {T : List Addr}, ∀ b ∈ T ++ ownA (ρ.set i (.d (.list xs))), b ∈ T ++ ownA ρ := fun b hb => by
    rw [List.mem_append, mo] at hb
    rcases hb with hb | hb
    · exact List.mem_append_left _ hb
    · exact List.mem_append_right _ hb.2
  have sm : ∀ {T : List Addr}, Same (hid (T ++ ownA ρ) H) (hid (T ++ ownA (ρ.set i (.d (.list xs)))) H) := hid_sub sub
  refine ⟨by rw [List.length_set]; exact st.len, fun j r e => ?_, fun j k b ys zs e1 e2 => ?_, fun b hb => st.out b ((mo b).mp hb).2, st.js, st.fr.trans sm, st.inv, st.al, st.gb⟩
  · rcases get_set e with ⟨rfl, rfl⟩ | ⟨ne, e'⟩
    · obtain ⟨u, eu, e1, vs, e2, d⟩ := st.sl i _ h
      refine ⟨u, eu, _, e1, .lst (hid_of e2 ?_) (d.same sm)⟩
      rw [List.mem_append, mo]
      rintro (z | ⟨z, _⟩)
      · exact st.out a (mem_ownA.mpr ⟨_, _, h⟩) z
      · exact z rfl
    · obtain ⟨u, eu, h'⟩ := st.sl j r e'
      refine ⟨u, eu, ?_⟩
      cases r with
      | un => trivial
      | d x => obtain ⟨v, e1, d⟩ := h'; exact ⟨v, e1, d.same sm⟩
      | own b ys => obtain ⟨e1, vs, e2, d⟩ := h'; exact ⟨e1, vs, e2, d.same sm⟩
      | «at» v => exact h'
  · rcases get_set e1 with ⟨_, z⟩ | ⟨_, e1⟩
    · cases z
    rcases get_set e2 with ⟨_, z⟩ | ⟨_, e2⟩
    · cases z
    exact st.nd j k b ys zs e1 e2
/-- an own list is written -/
theorem Sta.wrO (st : Sta K W S B ρ σ H ν) {i : Nat} {a : Addr} {xs ys : List PyData} {us : List V} (h : ρ[i]? = some (.own a xs)) (d : Dds K (hid (S ++ ownA ρ) H) us ys) : Sta K W S B (ρ.set i (.own a ys)) σ (upd H a (.lst us)) ν := by
  have eo : ownA (ρ.set i (.own a ys)) = ownA ρ := ownA_setSame h
  have ha : a ∈ ownA ρ := mem_ownA.mpr ⟨_, _, h⟩
  have hi : i < ρ.length := lt_of_at h
  have sm : ∀ {T : List Addr}, Same (hid (T ++ ownA ρ) H) (hid (T ++ ownA ρ) (upd H a (.lst us))) := fun b o e => by
    obtain ⟨e1, e2⟩ := of_hid e
    exact hid_of (by rw [upd_ne (fun (z : b = a) => e2 (List.mem_append_right _ (by rw [z]; exact ha)))]; exact e1) e2
  refine ⟨by rw [List.length_set]; exact st.len, fun j r e => ?_, fun j k b zs ws e1 e2 => ?_, by rw [eo]; exact st.out, st.js, by rw [eo]; exact st.fr.trans sm, W.hI (fun b hb => upd_ne fun (z : b = a) => st.ownJ ha (by rw [← z]; exact hb)) st.inv, st.al, st.gb⟩
  · rw [eo]
    rcases get_set e with ⟨rfl, rfl⟩ | ⟨ne, e'⟩
    · obtain ⟨u, eu, e1, _⟩ := st.sl i _ h
      exact ⟨u, eu, e1, us, upd_same, d.same sm⟩
    · obtain ⟨u, eu, h'⟩ := st.sl j r e'
      refine ⟨u, eu, ?_⟩
      cases r with
      | un => trivial
      | d x => obtain ⟨v, e1, d⟩ := h'; exact ⟨v, e1, d.same sm⟩
      | own b zs =>
        obtain ⟨e1, vs, e2, d⟩ := h'
        refine ⟨e1, vs, ?_, d.same sm⟩
        rw [upd_ne (fun (z : b = a) => ne (st.nd i j a xs zs h (by rw [← z]; exact e')))]
        exact e2
      | «at» v => exact h'
  · have g : ∀ {m : Nat} {c : Addr} {qs : List PyData}, (ρ.set i (.own a ys))[m]? = some (.own c qs) → ∃ qs', ρ[m]? = some (.own c qs') := fun {m c qs} e => by
      rcases get_set e with ⟨rfl, z⟩ | ⟨_, e⟩
      · cases z; exact ⟨xs, h⟩
      · exact ⟨qs, e⟩
    obtain ⟨_, g1⟩ := g e1
    obtain ⟨_, g2⟩ := g e2
    exact st.nd j k b _ _ g1 g2
theorem Sta.rebase (st : Sta K W S B ρ σ H ν) : Sta K W S (hid (W.J ++ ownA ρ) H) ρ σ H ν :=
  ⟨st.len, st.sl, st.nd, st.out, st.js, fun _ _ h => h, st.inv, fun a ha => (st.al a ha).imp id fun ⟨o, e⟩ => ⟨o, st.fr a o e⟩, st.gb.trans st.fr⟩
theorem Sta.base (st : Sta K W S B ρ σ H ν) {B0 : Hp} (k : Same B0 B) (al : ∀ a ∈ S, a ∈ W.J ∨ ∃ o, B0 a = some o) (gb : Same W.G B0) : Sta K W S B0 ρ σ H ν :=
  ⟨st.len, st.sl, st.nd, st.out, st.js, k.trans st.fr, st.inv, al, gb⟩
theorem Sta.alive (st : Sta K W S B ρ σ H ν) : ∀ p ∈ S ++ ownA ρ, ∃ o, H p = some o := fun p hp => by
  rcases List.mem_append.mp hp with h | h
  · rcases st.al p h with h | ⟨o, e⟩
    · exact W.hJ st.inv p h
    · exact ⟨o, (of_hid (st.fr p o e)).1⟩
  · obtain ⟨i, xs, e⟩ := mem_ownA.mp h
    obtain ⟨_, _, _, vs, e2, _⟩ := st.sl i _ e
    exact ⟨_, e2⟩
end
/-! ## what is gone through -/
def ItOk (K : PySem.W.Frag) (Hb : Hp) (J : It) (xs : List PyData) : Prop := ∀ (k : Nat) (H : Hp), Same Hb H → (xs.length ≤ k → J.stop k H) ∧ ∀ x, xs[k]? = some x → J.go k H ∧
  ∀ v H', J.yld k H v H' → Same H H' ∧ ∀ T, Same Hb (hid T H) → (∀ p ∈ T, ∃ o, H p = some o) → Dd K (hid T H') v x
def Di (K : PySem.W.Frag) (W : Wd) (ρ : List Sl) (ν : Nat) (wi : TI) (Ψ : Nat → List PyData → Prop) : Prop := ∀ S B σ H R, Sta K W S B ρ σ H ν →
  (∀ ν' J H' xs, Kp W.J H H' → W.I ν' H' → ItOk K (hid (S ++ ownA ρ) H') J xs → Ψ ν' xs → R J H') → wi σ H R
section
variable {K : PySem.W.Frag} {W : Wd} {ρ : List Sl} {ta tb tc : TE} {tr : TA} {ν : Nat} {Φ : Nat → PyData → Prop} {Ψ : Nat → List PyData → Prop}
theorem sql_inj {K : PySem.W.Frag} {H : Hp} {a : Addr} {xs ys : List V} (h : H a = some (.lst xs)) (e : SqL K H a ys) (hk : SqL K H a xs → SqL K H a ys → xs = ys) : xs = ys := hk (.inl (.inl h)) e
theorem itok_list {Hb : Hp} {a : Addr} {vs : List V} {xs : List PyData} (h : Hb a = some (.lst vs)) (d : Dds K Hb vs xs) : ItOk K Hb (Itl K a) xs := fun k H s => by
  have e : SqL K H a vs := .inl (.inl (s _ _ h))
  refine ⟨fun hk => ⟨vs, e, by rw [d.len]; exact hk⟩, fun x hx => ?_⟩
  obtain ⟨v, ev, dv⟩ := d.at hx
  refine ⟨⟨vs, v, e, ev⟩, ?_⟩
  rintro u H' ⟨rfl, hy⟩
  refine ⟨fun _ _ z => z, fun T sT _ => ?_⟩
  have := hy vs e
  rw [ev] at this
  cases this
  exact dv.same sT
theorem itok_tup {Hb : Hp} {a : Addr} {vs : List V} {xs : List PyData} (h : SqT K Hb a vs) (d : Dds K Hb vs xs) : ItOk K Hb (Itt K a) xs := fun k H s => by
  have e : SqT K H a vs := same_tup s h
  refine ⟨fun hk => ⟨vs, e, by rw [d.len]; exact hk⟩, fun x hx => ?_⟩
  obtain ⟨v, ev, dv⟩ := d.at hx
  refine ⟨⟨vs, v, e, ev⟩, ?_⟩
  rintro u H' ⟨rfl, hy⟩
  refine ⟨fun _ _ z => z, fun T sT _ => ?_⟩
  have := hy vs e
  rw [ev] at this
  cases this
  exact dv.same sT
def rngD (lo : Int) (n : Nat) : List PyData := (List.range n).map fun (i : Nat) => .int (lo + (i : Int))
theorem itok_rng {Hb : Hp} {lo : Int} {n : Nat} : ItOk K Hb (Itr lo n) (rngD lo n) := fun k H s => by
  refine ⟨fun hk => by unfold rngD at hk; rw [List.length_map, List.length_range] at hk; exact hk, fun x hx => ?_⟩
  unfold rngD at hx
  have hk := lt_of_at hx
  rw [List.length_map, List.length_range] at hk
  refine ⟨hk, ?_⟩
  rintro u H' ⟨rfl, rfl⟩
  refine ⟨fun _ _ z => z, fun T sT _ => ?_⟩
  rw [List.getElem?_map, List.getElem?_range hk] at hx
  cases hx
  exact .int _
def zipD (xs ys : List PyData) : List PyData := List.zipWith (fun x y => .tuple [x, y]) xs ys
theorem itok_zip {Hb : Hp} {a b : Addr} {vs us : List V} {xs ys : List PyData} (h : Hb a = some (.lst vs)) (d : Dds K Hb vs xs) (h' : Hb b = some (.lst us)) (d' : Dds K Hb us ys) : ItOk K Hb (Itz K a b) (zipD xs ys) := fun k H s => by
  have e : SqL K H a vs := .inl (.inl (s _ _ h))
  have e' : SqL K H b us := .inl (.inl (s _ _ h'))
  refine ⟨fun hk => ⟨vs, us, e, e', ?_⟩, fun x hx => ?_⟩
  · unfold zipD at hk
    rw [List.length_zipWith] at hk
    rw [d.len, d'.len]
    omega
  · unfold zipD at hx
    rw [List.getElem?_zipWith] at hx
    cases c1 : xs[k]? with
    | none => rw [c1] at hx; simp at hx
    | some x1 =>
      cases c2 : ys[k]? with
      | none => rw [c1, c2] at hx; simp at hx
      | some y1 =>
        rw [c1, c2] at hx
        cases hx
        obtain ⟨v, ev, dv⟩ := d.at c1
        obtain ⟨u, eu, du⟩ := d'.at c2
        refine ⟨⟨vs, us, v, u, e, e', ev, eu⟩, ?_⟩
        rintro w H' ⟨T, x, y, rfl, nT, rfl, hy, hy'⟩
        refine ⟨same_new nT, fun Z sZ al => ?_⟩
        have z1 := hy vs e
        have z2 := hy' us e'
        rw [ev] at z1; rw [eu] at z2
        cases z1; cases z2
        have nz : T ∉ Z := fun z => by obtain ⟨o, eo⟩ := al T z; rw [nT] at eo; cases eo
        have sm : Same Hb (hid Z (upd H T (.tup [v, u]))) := sZ.trans (hid_new' nT)
        exact .tup (.inl (.inl (hid_of upd_same nz))) (.cons (dv.same sm) (.cons (du.same sm) .nil))
def enumD (xs : List PyData) : List PyData := List.zipWith (fun (i : Nat) x => .tuple [.int (i : Int), x]) (List.range xs.length) xs
theorem enumD_at {xs : List PyData} {k : Nat} {x : PyData} (h : xs[k]? = some x) : (enumD xs)[k]? = some (.tuple [.int (k : Int), x]) := by
  unfold enumD
  rw [List.getElem?_zipWith, h, List.getElem?_range (lt_of_at h)]
theorem enumD_len (xs : List PyData) : (enumD xs).length = xs.length := by
  unfold enumD; rw [List.length_zipWith, List.length_range]; omega
theorem itok_enum {Hb : Hp} {a : Addr} {vs : List V} {xs : List PyData} (h : Hb a = some (.lst vs)) (d : Dds K Hb vs xs) : ItOk K Hb (Ite K a) (enumD xs) := fun k H s => by
  have e : SqL K H a vs := .inl (.inl (s _ _ h))
  refine ⟨fun hk => ⟨vs, e, by rw [enumD_len] at hk; rw [d.len]; exact hk⟩, fun x hx => ?_⟩
  have hk := lt_of_at hx
  rw [enumD_len] at hk
  have c1 : xs[k]? = some xs[k] := List.getElem?_eq_getElem hk
  rw [enumD_at c1] at hx
  cases hx
  obtain ⟨v, ev, dv⟩ := d.at c1
  refine ⟨⟨vs, v, e, ev⟩, ?_⟩
  rintro w H' ⟨T, x, rfl, nT, rfl, hy⟩
  refine ⟨same_new nT, fun Z sZ al => ?_⟩
  have z1 := hy vs e
  rw [ev] at z1
  cases z1
  have nz : T ∉ Z := fun z => by obtain ⟨o, eo⟩ := al T z; rw [nT] at eo; cases eo
  have sm : Same Hb (hid Z (upd H T (.tup [.int (k : Nat), v]))) := sZ.trans (hid_new' nT)
  exact .tup (.inl (.inl (hid_of upd_same nz))) (.cons (.int _) (.cons (dv.same sm) .nil))
theorem di_list (h : De K W ρ ν ta fun ν1 x => ∃ xs, x = .list xs ∧ Ψ ν1 xs) : Di K W ρ ν (iList K ta) Ψ := fun S B σ H R st q => by
  refine h S B σ H _ st fun _ v H1 x k1 i1 d1 ⟨xs, ex, hΨ⟩ => ?_
  subst ex
  cases d1 with
  | lst e ds => exact ⟨_, rfl, ⟨_, .inl (.inl (of_hid e).1)⟩, q _ _ _ xs k1 i1 (itok_list e ds) hΨ⟩
theorem di_tup (h : De K W ρ ν ta fun ν1 x => ∃ xs, x = .tuple xs ∧ Ψ ν1 xs) : Di K W ρ ν (iTup K ta) Ψ := fun S B σ H R st q => by
  refine h S B σ H _ st fun _ v H1 x k1 i1 d1 ⟨xs, ex, hΨ⟩ => ?_
  subst ex
  cases d1 with
  | tup e ds => exact ⟨_, rfl, ⟨_, same_tup hid_same e⟩, q _ _ _ xs k1 i1 (itok_tup e ds) hΨ⟩
theorem di_rng1 (h : Da K W ρ ν tr fun ν1 xs => ∃ j : Int, xs = [.int j] ∧ -(2 ^ 62) ≤ j ∧ j < 2 ^ 62 ∧ Ψ ν1 (rngD 0 j.toNat)) : Di K W ρ ν (iRng1 tr) Ψ := fun S B σ H R st q => by
  refine h S B σ H _ st fun _ vs H1 xs k1 i1 d1 ⟨j, ex, g1, g2, hΨ⟩ => ?_
  subst ex
  cases d1 with
  | cons d1 d2 =>
    cases d1; cases d2
    exact ⟨j, rfl, g1, g2, q _ _ _ _ k1 i1 itok_rng hΨ⟩
theorem di_rng2 (h : Da K W ρ ν tr fun ν1 xs => ∃ i j : Int, xs = [.int i, .int j] ∧ (-(2 ^ 62) ≤ i ∧ i < 2 ^ 62 ∧ -(2 ^ 62) ≤ j ∧ j < 2 ^ 62) ∧ Ψ ν1 (rngD i (j - i).toNat)) : Di K W ρ ν (iRng2 tr) Ψ := fun S B σ H R st q => by
  refine h S B σ H _ st fun _ vs H1 xs k1 i1 d1 ⟨i, j, ex, g1, hΨ⟩ => ?_
  subst ex
  cases d1 with
  | cons d1 d2 =>
    cases d2 with
    | cons d2 d3 =>
      cases d1; cases d2; cases d3
      exact ⟨i, j, rfl, g1, q _ _ _ _ k1 i1 itok_rng hΨ⟩
theorem di_zip (h : Da K W ρ ν tr fun ν1 xs => ∃ x y, xs = [.list x, .list y] ∧ Ψ ν1 (zipD x y)) : Di K W ρ ν (iZip K tr) Ψ := fun S B σ H R st q => by
  refine h S B σ H _ st fun _ vs H1 xs k1 i1 d1 ⟨x, y, ex, hΨ⟩ => ?_
  subst ex
  cases d1 with
  | cons d1 d2 =>
    cases d2 with
    | cons d2 d3 =>
      cases d3
      cases d1 with
      | lst e ds =>
        cases d2 with
        | lst e2 ds2 => exact ⟨_, _, _, _, rfl, .inl (.inl (of_hid e).1), .inl (.inl (of_hid e2).1), q _ _ _ _ k1 i1 (itok_zip e ds e2 ds2) hΨ⟩
theorem di_enum (h : Da K W ρ ν tr fun ν1 xs => ∃ x, xs = [.list x] ∧ Ψ ν1 (enumD x)) : Di K W ρ ν (iEnum K tr) Ψ := fun S B σ H R st q => by
  refine h S B σ H _ st fun _ vs H1 xs k1 i1 d1 ⟨x, ex, hΨ⟩ => ?_
  subst ex
  cases d1 with
  | cons d1 d2 =>
    cases d2
    cases d1 with
    | lst e ds => exact ⟨_, _, rfl, .inl (.inl (of_hid e).1), q _ _ _ _ k1 i1 (itok_enum e ds) hΨ⟩
/-! ## targets -/
def Dg (K : PySem.W.Frag) (W : Wd) (ρ : List Sl) (ν : Nat) (P : Nat → Prop) (g : TG) (x : PyData) (Θ : List Sl → Prop) : Prop := ∀ S B σ H v Q, Sta K W S B ρ σ H ν → Dd K (hid (S ++ ownA ρ) H) v x →
  (∀ ρ' σ', Sta K W S B ρ' σ' H ν → ownA ρ' = ownA ρ → (σ'.length = σ.length ∧ ∀ n, ¬ P n → σ'[n]? = σ[n]?) → Θ ρ' → Q σ' H) → g v σ H Q
def Dgs (K : PySem.W.Frag) (W : Wd) (ρ : List Sl) (ν : Nat) (P : Nat → Prop) (g : TGs) (xs : List PyData) (Θ : List Sl → Prop) : Prop := ∀ S B σ H vs Q, Sta K W S B ρ σ H ν → Dds K (hid (S ++ ownA ρ) H) vs xs →
  (∀ ρ' σ', Sta K W S B ρ' σ' H ν → ownA ρ' = ownA ρ → (σ'.length = σ.length ∧ ∀ n, ¬ P n → σ'[n]? = σ[n]?) → Θ ρ' → Q σ' H) → g vs σ H Q
variable {P : Nat → Prop} {Θ : List Sl → Prop}
theorem dg_name {i : Nat} {x : PyData} (n : nOwn ρ i = true) (hp : P i) (h : Θ (ρ.set i (.d x))) : Dg K W ρ ν P (gName i) x Θ := fun S B σ H v Q st d q =>
  q _ _ (st.setD n d) (ownA_set n rfl) ⟨List.length_set .., fun m hm => List.getElem?_set_ne fun (z : i = m) => hm (by rw [← z]; exact hp)⟩ h
theorem dgs_nil (h : Θ ρ) : Dgs K W ρ ν P gNil [] Θ := fun S B σ H vs Q st d q => by
  cases d
  exact ⟨rfl, q _ _ st rfl ⟨rfl, fun _ _ => rfl⟩ h⟩
theorem dgs_cons {g : TG} {gs : TGs} {x : PyData} {xs : List PyData} (h : Dg K W ρ ν P g x fun ρ' => Dgs K W ρ' ν P gs xs Θ) : Dgs K W ρ ν P (gCons g gs) (x :: xs) Θ := fun S B σ H vs Q st d q => by
  cases d with
  | cons d1 d2 =>
    refine ⟨_, _, rfl, h S B σ H _ _ st d1 fun ρ' σ' st' eo' e' h' => ?_⟩
    exact h' S B σ' H _ _ st' (by rw [eo']; exact d2) fun ρ2 σ2 st2 eo2 e2 hΘ => q ρ2 σ2 st2 (eo2.trans eo') ⟨e2.1.trans e'.1, fun n hn => (e2.2 n hn).trans (e'.2 n hn)⟩ hΘ
theorem dg_tup {n : Nat} {g : TGs} {xs : List PyData} (hn : xs.length = n) (h : Dgs K W ρ ν P g xs Θ) : Dg K W ρ ν P (gTup K n g) (.tuple xs) Θ := fun S B σ H v Q st d q => by
  cases d with
  | tup e ds => exact ⟨_, _, rfl, same_tup hid_same e, by rw [ds.len]; exact hn, h S B σ H _ _ st ds q⟩
theorem dg_unl {n : Nat} {g : TGs} {xs : List PyData} (hn : xs.length = n) (h : Dgs K W ρ ν P g xs Θ) : Dg K W ρ ν P (gUnl K n g) (.list xs) Θ := fun S B σ H v Q st d q => by
  cases d with
  | lst e ds => exact ⟨_, _, rfl, .inl (.inl (of_hid e).1), by rw [ds.len]; exact hn, h S B σ H _ _ st ds q⟩
end
end Bd
namespace Bd
open PySem PySem.Spec PyProof.Rows L2 HT
/-! ## statements -/
structure Po where
  nx : Nat → List Sl → Prop
  rt : Nat → Sl → Prop
  bk : Nat → List Sl → Prop
  ct : Nat → List Sl → Prop
def RetOk (K : PySem.W.Frag) (W : Wd) (S : List Addr) (B : Hp) (s : Sl) (v : V) (H : Hp) (ν : Nat) : Prop := Same B (hid W.J H) ∧ W.I ν H ∧ match s with
  | .d x => Dd K (hid S H) v x
  | .own a xs => v = .ref a ∧ a ∉ S ∧ B a = none ∧ ∃ vs, H a = some (.lst vs) ∧ Dds K (hid (a :: S) H) vs xs
  | .at u => v = u
  | .un => True
structure EndsOk (K : PySem.W.Frag) (W : Wd) (S : List Addr) (B : Hp) (P : Po) (D : Ends) : Prop where
  nx : ∀ ν ρ σ H, Sta K W S B ρ σ H ν → P.nx ν ρ → D.nx σ H
  rt : ∀ ν s v H, RetOk K W S B s v H ν → P.rt ν s → D.rt v H
  bk : ∀ ν ρ σ H, Sta K W S B ρ σ H ν → P.bk ν ρ → D.bk σ H
  ct : ∀ ν ρ σ H, Sta K W S B ρ σ H ν → P.ct ν ρ → D.ct σ H
def Ds (K : PySem.W.Frag) (W : Wd) (ρ : List Sl) (ν : Nat) (t : TS) (P : Po) : Prop := ∀ S B σ H D, Sta K W S B ρ σ H ν → EndsOk K W S B P D → t D σ H
section
variable {K : PySem.W.Frag} {W : Wd} {S : List Addr} {B : Hp} {ρ : List Sl} {σ : L2.St} {H H' : Hp} {ta tb tc te ti : TE} {tr : TA} {ν : Nat} {Φ : Nat → PyData → Prop} {Ψ : Nat → List PyData → Prop} {P : Po} {t u : TS}
theorem Sta.ret (st : Sta K W S B ρ σ H ν) {v : V} {x : PyData} (d : Dd K (hid (S ++ ownA ρ) H) v x) : RetOk K W S B (.d x) v H ν :=
  ⟨st.fr.trans (hid_sub fun b hb => List.mem_append_left _ hb), st.inv, d.same (hid_sub fun b hb => List.mem_append_left _ hb)⟩
theorem ds_seq (h : Ds K W ρ ν t { P with nx := fun ν1 ρ' => Ds K W ρ' ν1 u P }) : Ds K W ρ ν (tSeq t u) P := fun S B σ H D st e =>
  h S B σ H { D with nx := u D } st ⟨fun ν' ρ' σ' H' st' h' => h' S B σ' H' D st' e, e.rt, e.bk, e.ct⟩
theorem ds_mid {M : Nat → List Sl → Prop} (h : Ds K W ρ ν t { P with nx := M }) (h2 : ∀ ν' ρ', M ν' ρ' → Ds K W ρ' ν' u P) : Ds K W ρ ν (tMid t u) P := fun S B σ H D st e =>
  ⟨fun σ' H' => ∃ ν' ρ', Sta K W S B ρ' σ' H' ν' ∧ M ν' ρ', h S B σ H _ st ⟨fun ν' ρ' σ' H' st' h' => ⟨ν', ρ', st', h'⟩, e.rt, e.bk, e.ct⟩, fun σ' H' ⟨ν', ρ', st', h'⟩ => h2 ν' ρ' h' S B σ' H' D st' e⟩
theorem ds_next (h : P.nx ν ρ) : Ds K W ρ ν tNext P := fun S B σ H D st e => e.nx _ ρ σ H st h
theorem ds_break (h : P.bk ν ρ) : Ds K W ρ ν tBreak P := fun S B σ H D st e => e.bk _ ρ σ H st h
theorem ds_cont (h : P.ct ν ρ) : Ds K W ρ ν tCont P := fun S B σ H D st e => e.ct _ ρ σ H st h
theorem ds_set {i : Nat} (n : nOwn ρ i = true) (h : De K W ρ ν te fun ν1 x => P.nx ν1 (ρ.set i (.d x))) : Ds K W ρ ν (tAsg te (gName i)) P := fun S B σ H D st e =>
  h S B σ H _ st fun _ v H' x k i' d hΦ => e.nx _ _ _ _ ((st.keep k i').setD n d) hΦ
theorem ds_asg {g : TG} (h : De K W ρ ν te fun ν1 x => Dg K W ρ ν1 (fun _ => True) g x (P.nx ν1)) : Ds K W ρ ν (tAsg te g) P := fun S B σ H D st e =>
  h S B σ H _ st fun _ v H' x k i' d hΦ => hΦ S B σ H' v _ (st.keep k i') d fun ρ' σ' st' _ _ hΘ => e.nx _ ρ' σ' H' st' hΘ
theorem ds_setO {i : Nat} (n : nOwn ρ i = true) (hi : i < ρ.length) (h : Do K W ρ ν te fun ν1 xs => ∀ a, P.nx ν1 (ρ.set i (.own a xs))) : Ds K W ρ ν (tAsg te (gName i)) P := fun S B σ H D st e =>
  h S B σ H _ st fun _ a H' vs xs k i' nH ea d hΦ => by
    have f := st.fresh nH
    have st' := st.keep k i'
    have sm : ∀ {b o}, hid (S ++ ownA ρ) H b = some o → hid (a :: (S ++ ownA ρ)) H' b = some o := fun {b o} eb => by
      obtain ⟨e1, e2⟩ := of_hid (st.kpS k b o eb)
      refine hid_of e1 ?_
      rw [List.mem_cons]
      rintro (rfl | z)
      · have := (of_hid eb).1; rw [nH] at this; cases this
      · exact e2 z
    refine e.nx _ _ _ _ (st'.setO n hi f.1 f.2.1 ?_ ea d (fun j x ej nj v ev => ?_) (fun j b ys ej us eu => ?_)) (hΦ a)
    · cases c : B a with
      | none => rfl
      | some o => have := (of_hid (st.fr a o c)).1; rw [nH] at this; cases this
    · obtain ⟨v', ev', dv⟩ := st.slot ej
      rw [ev] at ev'
      cases ev'
      exact dv.same fun b o z => sm z
    · obtain ⟨w, ew, e1, us', e2, dw⟩ := st.sl j _ ej
      have := k.at e2 (st.ownJ (mem_ownA.mpr ⟨_, _, ej⟩))
      rw [eu] at this
      cases this
      exact dw.same fun b o z => sm z
/-- x[i] = e -/
theorem ds_sub {i : Nat} {a : Addr} {xs : List PyData} (ho : ρ[i]? = some (.own a xs)) (h : De K W ρ ν te fun ν1 x => De K W ρ ν1 ti fun ν2 y => ∃ n j, y = .int n ∧ ixN xs.length n = some j ∧ P.nx ν2 (ρ.set i (.own a (xs.set j x)))) :
    Ds K W ρ ν (tAsg te (gSub (tVar i) ti rSetL)) P := fun S B σ H D st e =>
  h S B σ H _ st fun _ v H1 x k1 i1 d1 h1 => by
    have st1 := st.keep k1 i1
    obtain ⟨w, ew, e1, vs, e2, d⟩ := st1.sl i _ ho
    subst e1
    refine ⟨_, ew, h1 S B σ H1 _ st1 fun _ y H2 z k2 i2 d2 ⟨n, j, ez, ej, hP⟩ => ?_⟩
    subst ez; cases d2
    have st2 := st1.keep k2 i2
    have e3 := k2.at e2 (st1.ownJ (mem_ownA.mpr ⟨_, _, ho⟩))
    refine ⟨a, vs, n, j, rfl, rfl, e3, by rw [d.len]; exact ej, ?_⟩
    exact e.nx _ _ _ _ (st2.wrO ho ((d.same (st1.kpS k2)).set (d1.same (st1.kpS k2)))) hP
/-- x[i] op= e, of numbers -/
theorem ds_augS {i : Nat} {a : Addr} {xs : List PyData} {f : Int → Int → Int} (ho : ρ[i]? = some (.own a xs))
    (h : De K W ρ ν ti fun ν1 y => ∃ (n : Int) (j : Nat) (c : Int), y = .int n ∧ 0 ≤ n ∧ n = (j : Int) ∧ xs[j]? = some (.int c) ∧ De K W ρ ν1 te fun ν2 z => ∃ m, z = .int m ∧ P.nx ν2 (ρ.set i (.own a (xs.set j (.int (f c m)))))) :
    Ds K W ρ ν (tAugS (tVar i) ti te (rGetL K) (ipI f) rSetL) P := fun S B σ H D st e => by
  obtain ⟨w, ew, e1, vs, e2, d⟩ := st.sl i _ ho
  subst e1
  refine ⟨_, ew, h S B σ H _ st fun _ y H1 x k1 i1 d1 ⟨n, j, c, ex, h0, en, ec, h1⟩ => ?_⟩
  subst ex en; cases d1
  have st1 := st.keep k1 i1
  have e3 := k1.at e2 (st.ownJ (mem_ownA.mpr ⟨_, _, ho⟩))
  have d' := d.same (st.kpS k1)
  obtain ⟨u, eu, du⟩ := d'.at ec
  cases du
  refine ⟨a, vs, _, .int c, rfl, rfl, h0, .inl (.inl e3), atI_nat eu, h1 S B σ H1 _ st1 fun _ z H2 zz k2 i2 d2 ⟨m, ez, hP⟩ => ?_⟩
  subst ez; cases d2
  have st2 := st1.keep k2 i2
  have e4 := k2.at e3 (st.ownJ (mem_ownA.mpr ⟨_, _, ho⟩))
  refine ⟨c, m, rfl, rfl, a, vs, _, j, rfl, rfl, e4, ixN_nat (lt_of_at eu), ?_⟩
  exact e.nx _ _ _ _ (st2.wrO ho ((d'.same (st1.kpS k2)).set (.int _))) hP
theorem ds_aug {i : Nat} {f : Int → Int → Int} {c : Int} (hx : ρ[i]? = some (.d (.int c))) (h : De K W ρ ν te fun ν1 z => ∃ m, z = .int m ∧ P.nx ν1 (ρ.set i (.d (.int (f c m))))) : Ds K W ρ ν (tAug i te (ipI f)) P := fun S B σ H D st e => by
  obtain ⟨v, ev, d⟩ := st.slot hx
  cases d
  refine ⟨_, ev, h S B σ H _ st fun _ z H1 x k1 i1 d1 ⟨m, ex, hP⟩ => ?_⟩
  subst ex; cases d1
  have n : nOwn ρ i = true := by unfold nOwn; rw [hx]
  exact ⟨c, m, rfl, rfl, e.nx _ _ _ _ ((st.keep k1 i1).setD n (.int _)) hP⟩
theorem ds_drop (h : De K W ρ ν te fun ν1 _ => P.nx ν1 ρ) : Ds K W ρ ν (tDrop te) P := fun S B σ H D st e => h S B σ H _ st fun _ v H' x k i' d hΦ => e.nx _ _ _ _ (st.keep k i') hΦ
theorem ds_append {i : Nat} {a : Addr} {xs : List PyData} (ho : ρ[i]? = some (.own a xs)) (h : De K W ρ ν te fun ν1 x => xs.length < sizeLine ∧ P.nx ν1 (ρ.set i (.own a (xs ++ [x])))) : Ds K W ρ ν (tDrop (tBM K "list" rAppend (tVar i) (tCons te tNil))) P := fun S B σ H D st e => by
  obtain ⟨w, ew, e1, vs, e2, d⟩ := st.sl i _ ho
  subst e1
  refine ⟨_, ew, .inl ⟨rfl, _, .inl (.inl e2)⟩, h S B σ H _ st fun _ v H1 x k1 i1 d1 ⟨hl, hP⟩ => ?_⟩
  have st1 := st.keep k1 i1
  exact ⟨a, vs, v, rfl, rfl, k1.at e2 (st.ownJ (mem_ownA.mpr ⟨_, _, ho⟩)), by rw [d.len]; exact hl, e.nx _ _ _ _ (st1.wrO ho ((d.same (st.kpS k1)).snoc d1)) hP⟩
theorem ds_extend {i : Nat} {a : Addr} {xs : List PyData} (ho : ρ[i]? = some (.own a xs)) (h : De K W ρ ν te fun ν1 x => ∃ ys, x = .list ys ∧ xs.length + ys.length ≤ sizeLine ∧ P.nx ν1 (ρ.set i (.own a (xs ++ ys)))) : Ds K W ρ ν (tDrop (tBM K "list" rExtend (tVar i) (tCons te tNil))) P := fun S B σ H D st e => by
  obtain ⟨w, ew, e1, vs, e2, d⟩ := st.sl i _ ho
  subst e1
  refine ⟨_, ew, .inl ⟨rfl, _, .inl (.inl e2)⟩, h S B σ H _ st fun _ v H1 x k1 i1 d1 ⟨ys, ex, hl, hP⟩ => ?_⟩
  subst ex
  have st1 := st.keep k1 i1
  cases d1 with
  | lst e5 ds => exact ⟨a, _, vs, _, rfl, rfl, k1.at e2 (st.ownJ (mem_ownA.mpr ⟨_, _, ho⟩)), (of_hid e5).1, by rw [d.len, ds.len]; exact hl, e.nx _ _ _ _ (st1.wrO ho ((d.same (st.kpS k1)).app ds)) hP⟩
theorem ds_clear {i : Nat} {a : Addr} {xs : List PyData} (ho : ρ[i]? = some (.own a xs)) (hP : P.nx ν (ρ.set i (.own a []))) : Ds K W ρ ν (tDrop (tBM0 K "list" rClear (tVar i))) P := fun S B σ H D st e => by
  obtain ⟨w, ew, e1, vs, e2, d⟩ := st.sl i _ ho
  subst e1
  exact ⟨_, ew, .inl ⟨rfl, _, .inl (.inl e2)⟩, a, vs, rfl, rfl, e2, e.nx _ _ _ _ (st.wrO ho .nil) hP⟩
theorem ds_insert {i : Nat} {a : Addr} {xs : List PyData} {r : V → List V → Hp → VK → Prop} (ho : ρ[i]? = some (.own a xs))
    (hr : ∀ H Q (vs : List V) (k : Int) (y : V), H a = some (.lst vs) → vs.length < sizeLine → 0 ≤ k → k < 2 ^ 63 → Q .non (upd H a (.lst (vs.take k.toNat ++ [y] ++ vs.drop k.toNat))) → r (.ref a) [.int k, y] H Q)
    (h : De K W ρ ν ta fun ν1 x => De K W ρ ν1 te fun ν2 y => ∃ k : Int, x = .int k ∧ xs.length < sizeLine ∧ 0 ≤ k ∧ k < 2 ^ 63 ∧ P.nx ν2 (ρ.set i (.own a (xs.take k.toNat ++ [y] ++ xs.drop k.toNat)))) :
    Ds K W ρ ν (tDrop (tBM K "list" r (tVar i) (tCons ta (tCons te tNil)))) P := fun S B σ H D st e => by
  obtain ⟨w, ew, e1, vs, e2, d⟩ := st.sl i _ ho
  subst e1
  refine ⟨_, ew, .inl ⟨rfl, _, .inl (.inl e2)⟩, h S B σ H _ st fun _ v H1 x k1 i1 d1 h1 => ?_⟩
  have st1 := st.keep k1 i1
  refine h1 S B σ H1 _ st1 fun _ v2 H2 y k2 i2 d2 ⟨k, ex, hl, h0, h63, hP⟩ => ?_
  subst ex; cases d1
  have st2 := st1.keep k2 i2
  have dd := d.same (st.kpS (k1.trans k2))
  exact hr H2 _ vs k v2 ((k1.trans k2).at e2 (st.ownJ (mem_ownA.mpr ⟨_, _, ho⟩))) (by rw [d.len]; exact hl) h0 h63 (e.nx _ _ _ _ (st2.wrO ho (((dd.take _).snoc d2).app (dd.drop _))) hP)
theorem ds_if {c : TT} (h : Dt K W ρ ν c fun ν1 b => (b = true → Ds K W ρ ν1 t P) ∧ (b = false → Ds K W ρ ν1 u P)) : Ds K W ρ ν (tIfS c t u) P := fun S B σ H D st e => by
  refine h S B σ H _ st fun _ b H1 k1 i1 ⟨ht, hf⟩ => ?_
  cases b with
  | true => exact ht rfl S B σ H1 D (st.keep k1 i1) e
  | false => exact hf rfl S B σ H1 D (st.keep k1 i1) e
theorem ds_ret (h : De K W ρ ν te fun ν1 x => P.rt ν1 (.d x)) : Ds K W ρ ν (tRet te) P := fun S B σ H D st e => h S B σ H _ st fun _ v H' x k i' d hΦ => e.rt _ _ _ _ ((st.keep k i').ret d) hΦ
theorem ds_retN (h : P.rt ν (.d .none)) : Ds K W ρ ν tRetN P := fun S B σ H D st e => e.rt _ _ _ _ (st.ret .non) h
theorem ds_retO (h : Do K W ρ ν te fun ν1 xs => ∀ a, P.rt ν1 (.own a xs)) : Ds K W ρ ν (tRet te) P := fun S B σ H D st e => h S B σ H _ st fun _ a H' vs xs k i' nH ea d hΦ => by
  have f := st.fresh nH
  have r := ((st.keep k i').ret (v := .non) .non)
  refine e.rt _ (.own a xs) _ _ ⟨r.1, r.2.1, rfl, f.1, ?_, vs, ea, d.same (hid_sub fun b hb => ?_)⟩ (hΦ a)
  · cases c : B a with
    | none => rfl
    | some o => have := (of_hid (st.fr a o c)).1; rw [nH] at this; cases this
  · simp only [List.mem_cons, List.mem_append] at hb ⊢
    rcases hb with z | z
    · exact .inl z
    · exact .inr (.inl z)
theorem ds_retV {i : Nat} {a : Addr} {xs : List PyData} (ho : ρ[i]? = some (.own a xs)) (h : P.rt ν (.own a xs)) : Ds K W ρ ν (tRet (tVar i)) P := fun S B σ H D st e => by
  obtain ⟨w, ew, e1, vs, e2, d⟩ := st.sl i _ ho
  subst e1
  have ha : a ∈ ownA ρ := mem_ownA.mpr ⟨_, _, ho⟩
  have r := (st.ret (v := .non) .non)
  refine ⟨_, ew, e.rt _ (.own a xs) _ _ ⟨r.1, r.2.1, rfl, st.out a ha, ?_, vs, e2, d.same (hid_sub fun b hb => ?_)⟩ h⟩
  · cases c : B a with
    | none => rfl
    | some o => exact absurd (List.mem_append_right _ ha) (of_hid (st.fr a o c)).2
  · simp only [List.mem_cons, List.mem_append] at hb ⊢
    rcases hb with rfl | z
    · exact .inr ha
    · exact .inl z
theorem ds_freeze (i : Nat) {a : Addr} {xs : List PyData} (ho : ρ[i]? = some (.own a xs)) (h : Ds K W (ρ.set i (.d (.list xs))) ν t P) : Ds K W ρ ν t P := fun S B σ H D st e => h S B σ H D (st.freeze ho) e
/-- a slot is forgotten -/
theorem Sta.same0 (st : Sta K W S B ρ σ H ν) {i : Nat} (n : nOwn ρ i = true) : Sta K W S B (ρ.set i .un) σ H ν := by
  have eo : ownA (ρ.set i .un) = ownA ρ := ownA_set n rfl
  refine ⟨by rw [List.length_set, st.len], fun j r e => ?_, fun j k a xs ys e1 e2 => ?_, by rw [eo]; exact st.out, st.js, by rw [eo]; exact st.fr, st.inv, st.al, st.gb⟩
  · rw [eo]
    rcases get_set e with ⟨rfl, rfl⟩ | ⟨ne, e'⟩
    · have hi : i < ρ.length := by have := lt_of_at e; rw [List.length_set] at this; exact this
      exact ⟨_, List.getElem?_eq_getElem (st.ltl hi), trivial⟩
    · exact st.sl j r e'
  · rcases get_set e1 with ⟨_, z⟩ | ⟨_, e1⟩
    · cases z
    rcases get_set e2 with ⟨_, z⟩ | ⟨_, e2⟩
    · cases z
    exact st.nd j k a xs ys e1 e2
theorem ds_forget (i : Nat) (n : nOwn ρ i = true) (h : Ds K W (ρ.set i .un) ν t P) : Ds K W ρ ν t P := fun S B σ H D st e => h S B σ H D (st.same0 n) e
/-! loops -/
theorem ItOk.to {Hb Hb' : Hp} {J : It} {xs : List PyData} (h : ItOk K Hb J xs) (s : Same Hb Hb') : ItOk K Hb' J xs := fun k H e => ⟨(h k H (s.trans e)).1, fun x hx => ⟨((h k H (s.trans e)).2 x hx).1, fun v H' y => ⟨(((h k H (s.trans e)).2 x hx).2 v H' y).1, fun T sT al => (((h k H (s.trans e)).2 x hx).2 v H' y).2 T (s.trans sT) al⟩⟩⟩
theorem ds_for {wi : TI} {g : TG} {tb : TS}
    (h : Di K W ρ ν wi fun ν1 xs => ∃ Iv : Nat → Nat → List Sl → Prop, Iv 0 ν1 ρ ∧ (∀ k x ν2 ρ', xs[k]? = some x → Iv k ν2 ρ' → Dg K W ρ' ν2 (fun _ => True) g x fun ρ2 => Ds K W ρ2 ν2 tb ⟨Iv (k + 1), P.rt, P.nx, Iv (k + 1)⟩) ∧ ∀ ν2 ρ', Iv xs.length ν2 ρ' → P.nx ν2 ρ') :
    Ds K W ρ ν (tFor wi g tb) P := fun S B σ H D st e => by
  refine h S B σ H _ st fun _ J H1 xs k1 i1 it ⟨Iv, h0, hs, hd⟩ => ?_
  have st1 := st.keep k1 i1
  have st1' := st1.rebase
  have bs : Same B (hid (W.J ++ ownA ρ) H1) := st1.fr
  refine ⟨fun i m σ H => m = xs.length - i ∧ i ≤ xs.length ∧ ∃ ν' ρ', Sta K W S (hid (W.J ++ ownA ρ) H1) ρ' σ H ν' ∧ Iv i ν' ρ', ⟨xs.length, by simp, Nat.zero_le _, _, ρ, st1', h0⟩, ?_⟩
  rintro i m σ2 H2 ⟨rfl, hi, ν2, ρ2, st2, hI⟩
  have bb : ∀ {T : List Addr}, (∀ b ∈ T, b ∈ S ++ ownA ρ2) → Same (hid (S ++ ownA ρ) H1) (hid T H2) := fun {T} hT b o eb => by
    obtain ⟨e1, e2⟩ := of_hid eb
    have e3 : hid (W.J ++ ownA ρ) H1 b = some o := hid_of e1 fun z => e2 (by
      rcases List.mem_append.mp z with z | z
      · exact List.mem_append_left _ (st.js b z)
      · exact List.mem_append_right _ z)
    obtain ⟨e4, e5⟩ := of_hid (st2.fr b o e3)
    refine hid_of e4 fun z => ?_
    rcases List.mem_append.mp (hT b z) with z | z
    · exact e2 (List.mem_append_left _ z)
    · exact e5 (List.mem_append_right _ z)
  have ik := it i H2 (by have := bb (T := []) (fun b hb => by cases hb); exact this.trans hid_same)
  by_cases hlt : i < xs.length
  · right
    obtain ⟨g1, g2⟩ := ik.2 _ (List.getElem?_eq_getElem hlt)
    refine ⟨g1, fun σ' H' => ∃ ν' ρ', Sta K W S (hid (W.J ++ ownA ρ) H1) ρ' σ' H' ν' ∧ Iv (i + 1) ν' ρ', fun σ' H' ⟨ν', ρ', s', p'⟩ => ⟨xs.length - (i + 1), by omega, rfl, hlt, ν', ρ', s', p'⟩, fun x H' y => ?_⟩
    obtain ⟨s3, g3⟩ := g2 x H' y
    have st3 : Sta K W S (hid (W.J ++ ownA ρ) H1) ρ2 σ2 H' ν2 := st2.keep (Kp.same s3) (W.hI (fun a ha => by obtain ⟨o, eo⟩ := W.hJ st2.inv a ha; rw [eo, s3 _ _ eo]) st2.inv)
    refine hs i _ ν2 ρ2 (List.getElem?_eq_getElem hlt) hI S _ σ2 H' x _ st3 (g3 _ (bb fun b hb => hb) st2.alive) fun ρ4 σ4 st4 _ _ h4 => ?_
    refine h4 S _ σ4 H' _ st4 ⟨fun ν5 ρ5 σ5 H5 st5 h5 => ⟨ν5, ρ5, st5, h5⟩, fun ν5 s v H5 r h5 => e.rt _ s v H5 ⟨?_, r.2.1, ?_⟩ h5, fun ν5 ρ5 σ5 H5 st5 h5 => e.nx _ ρ5 σ5 H5 (st5.base bs st.al st.gb) h5, fun ν5 ρ5 σ5 H5 st5 h5 => ⟨ν5, ρ5, st5, h5⟩⟩
    · exact bs.trans r.1
    · have r2 := r.2.2
      cases s with
      | un => trivial
      | d x => exact r2
      | «at» w => exact r2
      | own a ys =>
        obtain ⟨r3, r4, r5, r6⟩ := r2
        refine ⟨r3, r4, ?_, r6⟩
        cases c : B a with
        | none => rfl
        | some o => rw [bs a o c] at r5; cases r5
  · left
    exact ⟨ik.1 (by omega), e.nx _ ρ2 σ2 H2 (st2.base bs st.al st.gb) (hd ν2 ρ2 (by rw [show xs.length = i by omega]; exact hI))⟩
theorem ds_while {c : TT} {tb : TS} (Iv : Nat → Nat → List Sl → Prop) (m : Nat) (h0 : Iv m ν ρ)
    (h : ∀ m ν' ρ', Iv m ν' ρ' → Dt K W ρ' ν' c fun ν1 b => (b = true → Ds K W ρ' ν1 tb ⟨fun n r => ∃ m', m' < m ∧ Iv m' n r, P.rt, P.nx, fun n r => ∃ m', m' < m ∧ Iv m' n r⟩) ∧ (b = false → P.nx ν1 ρ')) : Ds K W ρ ν (tWhile c tb) P := fun S B σ H D st e => by
  refine ⟨fun m σ H => ∃ ν' ρ', Sta K W S B ρ' σ H ν' ∧ Iv m ν' ρ', ⟨m, ν, ρ, st, h0⟩, ?_⟩
  rintro m σ2 H2 ⟨ν2, ρ2, st2, hI⟩
  refine h m ν2 ρ2 hI S B σ2 H2 _ st2 fun ν3 b H3 k3 i3 ⟨ht, hf⟩ => ?_
  have st3 := st2.keep k3 i3
  cases b with
  | true =>
    refine ⟨fun σ' H' => ∃ ν' ρ', Sta K W S B ρ' σ' H' ν' ∧ ∃ m', m' < m ∧ Iv m' ν' ρ', fun σ' H' ⟨ν', ρ', s', m', h1, h2⟩ => ⟨m', h1, ν', ρ', s', h2⟩, ?_⟩
    exact ht rfl S B σ2 H3 _ st3 ⟨fun ν5 ρ5 σ5 H5 st5 h5 => ⟨ν5, ρ5, st5, h5⟩, e.rt, e.nx, fun ν5 ρ5 σ5 H5 st5 h5 => ⟨ν5, ρ5, st5, h5⟩⟩
  | false => exact e.nx _ _ _ _ st3 (hf rfl)
/-! comprehensions -/
def wipeR (ρ : List Sl) : List Nat → List Sl
  | [] => ρ
  | v :: vs => (wipeR ρ vs).set v .un
theorem wipeR_own : ∀ {vs : List Nat}, (∀ v ∈ vs, nOwn ρ v = true) → ownA (wipeR ρ vs) = ownA ρ ∧ ∀ i, nOwn ρ i = true → nOwn (wipeR ρ vs) i = true
  | [], _ => ⟨rfl, fun i h => h⟩
  | v :: vs, h => by
    obtain ⟨e, n⟩ := wipeR_own (vs := vs) fun w hw => h w (List.mem_cons_of_mem _ hw)
    refine ⟨(ownA_set (n v (h v List.mem_cons_self)) rfl).trans e, fun i hi => ?_⟩
    unfold nOwn
    show (match ((wipeR ρ vs).set v .un)[i]? with | some (.own _ _) => false | _ => true) = true
    cases c : ((wipeR ρ vs).set v .un)[i]? with
    | none => rfl
    | some s =>
      rcases get_set c with ⟨_, rfl⟩ | ⟨_, c⟩
      · rfl
      · have := n i hi
        unfold nOwn at this
        rw [c] at this
        exact this
theorem Sta.wipe (st : Sta K W S B ρ σ H ν) : ∀ {vs : List Nat}, (∀ v ∈ vs, nOwn ρ v = true) → Sta K W S B (wipeR ρ vs) (wipe σ vs) H ν
  | [], _ => st
  | v :: vs, h => by
    have ih := st.wipe (vs := vs) fun w hw => h w (List.mem_cons_of_mem _ hw)
    exact ih.setS ((wipeR_own fun w hw => h w (List.mem_cons_of_mem _ hw)).2 v (h v List.mem_cons_self)) rfl trivial
theorem wipe_at : ∀ (vs : List Nat) (σ : L2.St) (n : Nat), n < σ.length → (wipe σ vs)[n]? = if n ∈ vs then some none else σ[n]?
  | [], σ, n, _ => by simp [L2.wipe]
  | v :: vs, σ, n, hn => by
    have ih := wipe_at vs σ n hn
    show ((L2.wipe σ vs).set v none)[n]? = _
    by_cases e : v = n
    · subst e
      rw [List.getElem?_set_self (by rw [wipe_length]; exact hn), if_pos List.mem_cons_self]
    · rw [List.getElem?_set_ne e, ih]
      by_cases z : n ∈ vs
      · rw [if_pos z, if_pos (List.mem_cons_of_mem _ z)]
      · rw [if_neg z, if_neg]
        rw [List.mem_cons]
        rintro (z' | z')
        · exact e z'.symm
        · exact z z'
theorem wipe_eq {vs : List Nat} {σ σ' : L2.St} (hl : σ'.length = σ.length) (h : ∀ n, ¬ n ∈ vs → σ'[n]? = (wipe σ vs)[n]?) : wipe σ' vs = wipe σ vs := by
  apply List.ext_getElem?
  intro n
  by_cases hn : n < σ.length
  · rw [wipe_at vs σ n hn, wipe_at vs σ' n (by omega)]
    by_cases z : n ∈ vs
    · rw [if_pos z, if_pos z]
    · rw [if_neg z, if_neg z, h n z, wipe_at vs σ n hn, if_neg z]
  · rw [List.getElem?_eq_none (by rw [wipe_length]; omega), List.getElem?_eq_none (by rw [wipe_length]; omega)]
theorem do_lc {wi : TI} {g : TG} {tt : TT} {vs : List Nat} (hv : ∀ v ∈ vs, nOwn ρ v = true)
    (h : Di K W ρ ν wi fun ν1 xs => ∃ Iv : Nat → Nat → List PyData → Prop, Iv 0 ν1 [] ∧ (∀ k x ν2 ys, xs[k]? = some x → Iv k ν2 ys → Dg K W (wipeR ρ vs) ν2 (· ∈ vs) g x fun ρ2 => Dt K W ρ2 ν2 tt fun ν3 b =>
      (b = true → De K W ρ2 ν3 te fun ν4 y => ys.length < sizeLine ∧ Iv (k + 1) ν4 (ys ++ [y])) ∧ (b = false → Iv (k + 1) ν3 ys)) ∧ ∀ ν2 ys, Iv xs.length ν2 ys → Ψ ν2 ys) :
    Do K W ρ ν (tLc wi g tt te vs) Ψ := fun S B σ H Q st q => by
  refine h S B σ H _ st fun νa J H1 xs k1 i1 it ⟨Iv, h0, hs, hd⟩ D nD => ?_
  have st1 := st.keep k1 i1
  have fD := st1.fresh nD
  -- the state with the new list hidden
  let Pv : Nat → Hp → Prop := fun i H' => ∃ ν' acc ys, Sta K W (D :: S) (hid (W.J ++ ownA ρ) H') ρ σ H' ν' ∧ H' D = some (.lst acc) ∧ Dds K (hid (D :: (S ++ ownA ρ)) H') acc ys ∧ Iv i ν' ys ∧ Kp W.J H1 H'
  have st0 : Sta K W (D :: S) (hid (W.J ++ ownA ρ) (upd H1 D (.lst []))) ρ σ (upd H1 D (.lst [])) νa := by
    obtain ⟨kn, inn⟩ := st1.new (o := .lst []) nD
    have s2 := st1.keep kn inn
    refine ⟨s2.len, fun n s e => ?_, s2.nd, fun a ha z => ?_, fun a ha => List.mem_cons_of_mem _ (s2.js a ha), fun _ _ z => z, s2.inv, fun a ha => ?_, s2.gb.trans s2.fr⟩
    · obtain ⟨u, eu, h⟩ := st1.sl n s e
      refine ⟨u, eu, ?_⟩
      cases s with
      | un => trivial
      | d x => obtain ⟨v, e1, d⟩ := h; exact ⟨v, e1, d.same (hid_new nD)⟩
      | own b ys =>
        obtain ⟨e1, us, e2, d⟩ := h
        exact ⟨e1, us, by rw [upd_ne (fun z => by rw [z, nD] at e2; cases e2)]; exact e2, d.same (hid_new nD)⟩
      | «at» v => exact h
    · rcases List.mem_cons.mp z with rfl | z
      · exact fD.2.1 ha
      · exact st1.out a ha z
    · rcases List.mem_cons.mp ha with rfl | ha
      · exact .inr ⟨_, hid_of upd_same (by simp [fD.2.2, fD.2.1])⟩
      · rcases s2.al a ha with z | ⟨o, z⟩
        · exact .inl z
        · exact .inr ⟨o, s2.fr a o z⟩
  refine ⟨fun i m H' => m = xs.length - i ∧ i ≤ xs.length ∧ Pv i H', ⟨xs.length, by simp, Nat.zero_le _, _, [], [], st0, upd_same, .nil, h0, (st1.new nD).1⟩, ?_⟩
  rintro i m H2 ⟨rfl, hi, ν2, acc, ys, st2, eD, dA, hI, k2⟩
  have bb : Same (hid (S ++ ownA ρ) H1) (hid (D :: (S ++ ownA ρ)) H2) := fun b o eb => by
    obtain ⟨e1, e2⟩ := of_hid (st1.kpS k2 b o eb)
    refine hid_of e1 ?_
    rw [List.mem_cons]
    rintro (rfl | z)
    · have := (of_hid eb).1; rw [nD] at this; cases this
    · exact e2 z
  have ik := it i H2 (bb.trans hid_same)
  by_cases hlt : i < xs.length
  · right
    obtain ⟨g1, g2⟩ := ik.2 _ (List.getElem?_eq_getElem hlt)
    refine ⟨g1, Pv (i + 1), fun H' p' => ⟨xs.length - (i + 1), by omega, rfl, hlt, p'⟩, fun x H3 y => ?_⟩
    obtain ⟨s3, g3⟩ := g2 x H3 y
    have i3 : W.I ν2 H3 := W.hI (fun a ha => by obtain ⟨o, eo⟩ := W.hJ st2.inv a ha; rw [eo, s3 _ _ eo]) st2.inv
    have st3 := st2.keep (Kp.same s3) i3
    have dx := g3 (D :: (S ++ ownA ρ)) bb st2.alive
    have hw := wipeR_own (ρ := ρ) hv
    refine hs i _ ν2 ys (List.getElem?_eq_getElem hlt) hI (D :: S) _ _ H3 x _ (st3.wipe hv) (by rw [hw.1]; exact dx) fun ρ4 σ4 st4 eo4 e4 h4 => ?_
    refine ⟨wipe_eq (by rw [e4.1, wipe_length]) fun n hn => e4.2 n hn, ?_⟩
    refine h4 (D :: S) _ σ4 H3 _ st4 fun ν5 b H5 k5 i5 ⟨ht, hf⟩ => ?_
    have kk : ∀ {ν6 H6}, Kp W.J H3 H6 → W.I ν6 H6 → Sta K W (D :: S) (hid (W.J ++ ownA ρ) H6) ρ σ H6 ν6 ∧ H6 D = some (.lst acc) ∧ Dds K (hid (D :: (S ++ ownA ρ)) H6) acc ys ∧ Kp W.J H1 H6 := fun {ν6 H6} k6 i6 => by
      refine ⟨(st3.keep k6 i6).rebase, k6.at (s3 _ _ eD) fD.2.2, ?_, (k2.trans (Kp.same s3)).trans k6⟩
      have z := st3.kpS (T := ownA ρ) k6
      have z2 : Same (hid (D :: (S ++ ownA ρ)) H2) (hid (D :: (S ++ ownA ρ)) H3) := Kp.same s3
      exact dA.same (z2.trans z)
    cases b with
    | false =>
      obtain ⟨a1, a2, a3, a4⟩ := kk k5 i5
      exact ⟨_, acc, ys, a1, a2, a3, hf rfl, a4⟩
    | true =>
      refine ht rfl (D :: S) _ σ4 H5 _ (st4.keep k5 i5) fun ν6 v H6 z k6 i6 d6 ⟨hl, hI'⟩ => ?_
      obtain ⟨a1, a2, a3, a4⟩ := kk (k5.trans k6) i6
      refine ⟨acc, a2, by rw [a3.len]; exact hl, _, acc ++ [v], ys ++ [z], ?_, upd_same, ?_, hI', fun b o eb => ?_⟩
      · refine ⟨a1.len, fun n s e => ?_, a1.nd, a1.out, a1.js, fun _ _ z => z, W.hI (fun a ha => upd_ne fun (z : a = D) => fD.2.2 (by rw [← z]; exact ha)) a1.inv, fun a ha => ?_, fun b o eb => ?_⟩
        · obtain ⟨u, eu, h⟩ := a1.sl n s e
          refine ⟨u, eu, ?_⟩
          have sm : Same (hid (D :: S ++ ownA ρ) H6) (hid (D :: S ++ ownA ρ) (upd H6 D (.lst (acc ++ [v])))) := fun b o eb => by
            obtain ⟨e1, e2⟩ := of_hid eb
            exact hid_of (by rw [upd_ne (fun (z : b = D) => e2 (by simp [z]))]; exact e1) e2
          cases s with
          | un => trivial
          | d x => obtain ⟨v, e1, d⟩ := h; exact ⟨v, e1, d.same sm⟩
          | own b ys =>
            obtain ⟨e1, us, e2, d⟩ := h
            exact ⟨e1, us, by rw [upd_ne (fun (z : b = D) => fD.2.1 (by rw [← z]; exact mem_ownA.mpr ⟨_, _, e⟩))]; exact e2, d.same sm⟩
          | «at» v => exact h
        · rcases a1.al a ha with z | ⟨o, z⟩
          · exact .inl z
          · by_cases eD : a = D
            · subst eD
              exact .inr ⟨_, hid_of upd_same (by simp [fD.2.2, fD.2.1])⟩
            · obtain ⟨e1, e2⟩ := of_hid z
              exact .inr ⟨o, hid_of (by rw [upd_ne eD]; exact e1) e2⟩
        · obtain ⟨e1, e2⟩ := of_hid (a1.gb b o eb)
          refine hid_of ?_ e2
          rw [upd_ne (fun (z : b = D) => ?_)]
          · exact e1
          · have := (of_hid (st1.fr b o (st1.gb b o eb))).1
            rw [z, nD] at this; cases this
      · have sm : Same (hid (D :: (S ++ ownA ρ)) H6) (hid (D :: (S ++ ownA ρ)) (upd H6 D (.lst (acc ++ [v])))) := fun b o eb => by
          obtain ⟨e1, e2⟩ := of_hid eb
          exact hid_of (by rw [upd_ne (fun (z : b = D) => e2 (by simp [z]))]; exact e1) e2
        refine (a3.snoc ?_).same sm
        rw [eo4, hw.1] at d6
        exact d6
      · obtain ⟨e1, e2⟩ := of_hid (a4 b o eb)
        refine hid_of ?_ e2
        rw [upd_ne (fun (z : b = D) => by have := (of_hid eb).1; rw [z, nD] at this; cases this)]
        exact e1
  · left
    refine ⟨ik.1 (by omega), q _ D H2 acc ys (k1.trans k2) ?_ (k1.none fD.2.2 nD) eD dA (hd _ ys (by rw [show xs.length = i by omega]; exact hI))⟩
    exact st2.inv
end
end Bd
namespace Bd
open PySem PySem.Spec PyProof.Rows L2 HT
/-! ## calls -/
structure Cg (P : Program) (w : World) (K : PySem.W.Frag) (mg : Str → Option Value) (base : Heap) (k : Nat) (x : Str) (sp : Sp) : Prop where
  ex : ∃ (f : Addr) (fd : FuncData) (ps : List Str), FnG P w K mg base k f fd ps sp ∧ mg x = some (.ref f) ∧ PySem.W.keepIn K (.ref f) = true ∧ Binds K fd ps []
structure Cgk (P : Program) (w : World) (K : PySem.W.Frag) (mg : Str → Option Value) (base : Heap) (k : Nat) (x : Str) (ks : List Str) (gV : List V → List V) (sp : Sp) : Prop where
  ex : ∃ (f : Addr) (fd : FuncData) (ps : List Str) (g : List Value → List Value), FnG P w K mg base k f fd ps sp ∧ mg x = some (.ref f) ∧ PySem.W.keepIn K (.ref f) = true ∧
    (∀ (s : Shared) (ws : List Value), (g ws).length = ps.length → BindsTo s fd ⟨[], ks.zip ws⟩ (ps.zip (g ws))) ∧ ∀ {zs : List V} {ws : List Value}, Vals zs ws → Vals (gV zs) (g ws)
section
variable {X : Cx} {k j : Nat} {x : Str} {ks : List Str} {gV : List V → List V} {sp : Sp} {p pos : Pos} {e : Expr} {es : List Expr} {kws : List Keyword} {t tk : TA}
theorem run_fnG {f : Addr} {fd : FuncData} {ps : List Str} {pins : List (Addr × Obj)} {σ : L2.St} {H : Hp} {s : Shared} {Q : VK} {us : List Value} {vs : List V} (F : FnG X.prog X.w X.K X.mg X.base k f fd ps sp) (hG : X.A.guards = some []) (hr : Room k X.A) (hb : Binds X.K fd ps [])
    (I : L2.Inv X pins σ H s) (r : Vals vs us) (h : sp vs H Q E0) : wpAny (model X.prog X.w) X.A (call (.ref f) us) (EP X pins σ Q) X.xe s := by
  have hl : us.length = ps.length := by rw [← r.length]; exact F.len _ _ _ _ h
  have hb' := hb s us I.kIn (by rw [List.append_nil]; exact hl)
  rw [List.append_nil] at hb'
  refine wpAny_call (codeAny_mono (F.run X.A X.stack s H ⟨us, []⟩ us vs Q E0 hG hr I.env0 hb' r h) fun r s' hq => ?_)
  cases r with
  | error e => exact hq.elim
  | ok fl =>
    cases fl with
    | ret u => exact I.after hq
    | next => exact hq.elim
    | brk => exact hq.elim
    | cont => exact hq.elim
theorem pe_g (c : Cg X.prog X.w X.K X.mg X.base k x sp) (hG : X.A.guards = some []) (hr : Room j X.A) (hk : k ≤ j) (hg : Gl X x) (ha : PA X (e :: es) t)
    (hd : (x == ("__debug__" : Str)) = false := by decide) (h1 : starEach (e :: es) X.env = (false, eval e X.env) :: starEach es X.env := by rfl) (h2 : (backTo pos (starEach es X.env)).any (·.1) = false := by rfl) :
    PE X (.Call (.Name x p) (e :: es) [] pos) (tCall sp [] E0 t) := by
  obtain ⟨f, fd, ps, F, hm, kp, b⟩ := c.ex
  refine ⟨fun pins s σ H Q I h => ?_⟩
  refine wpAny_Call_Name_kw (ld_glob I hg hm ?_ hd)
  refine PySem.W.callWith_K (h₀ := X.base) I.ok.mod.kin kp (thn (ha.run pos pins s σ H _ I h) fun us s1 ⟨vs, H1, I1, r, q⟩ => ⟨I1.kIn, ?_⟩) h1 h2
  have q : sp (vs ++ []) H1 Q E0 := q
  rw [List.append_nil] at q
  exact run_fnG F hG (hr.mono hk) b I1 r q
theorem pe_gk (c : Cgk X.prog X.w X.K X.mg X.base k x ks gV sp) (hG : X.A.guards = some []) (hr : Room j X.A) (hk : k ≤ j) (hg : Gl X x) (ha : PK X kws tk)
    (h1 : (backToKw pos (keywordEach kws X.env)).all (·.1.isSome) = true := by rfl) (h2 : (backToKw pos (keywordEach kws X.env)).filterMap (·.1) = ks := by rfl)
    (hd : (x == ("__debug__" : Str)) = false := by decide) (h3 : ((backTo pos (starEach [] X.env)).any (·.1) || (backToKw pos (keywordEach kws X.env)).any (·.1.isNone)) = false := by rfl) :
    PE X (.Call (.Name x p) [] kws pos) (tKw sp gV tk) := by
  obtain ⟨f, fd, ps, g, F, hm, kp, b, br⟩ := c.ex
  refine ⟨fun pins s σ H Q I h => ?_⟩
  refine wpAny_Call_Name_kw (ld_glob I hg hm ?_ hd)
  refine PySem.W.callWith_KW0 (h₀ := X.base) I.ok.mod.kin kp h1 (thn (ha.run pos pins s σ H _ I h) fun ws s2 ⟨zs, H2, I2, rz, q2⟩ => ⟨I2.kIn, ?_⟩) h3
  rw [h2]
  have rg := br rz
  have hl : (g ws).length = ps.length := by rw [← rg.length]; exact F.len _ _ _ _ q2
  show wpAny _ _ (call (.ref f) [] (ks.zip ws)) _ _ _
  refine wpAny_call (codeAny_mono (F.run X.A X.stack s2 H2 ⟨[], ks.zip ws⟩ (g ws) (gV zs) Q E0 hG (hr.mono hk) I2.env0 (b s2 ws hl) rg q2) fun r s' hq => ?_)
  cases r with
  | error e => exact hq.elim
  | ok fl =>
    cases fl with
    | ret u => exact I2.after hq
    | next => exact hq.elim
    | brk => exact hq.elim
    | cont => exact hq.elim
end
/-! ## a def's promise by data -/
def Wg (G : Hp) : Wd := ⟨[], fun _ _ => True, fun _ h => h, fun _ a h => (nomatch h), G⟩
def Wn : Wd := Wg fun _ => none
def Wd.add (W : Wd) (a : Addr) (P : Nat → List Int → Prop) : Wd where
  J := a :: W.J
  I := fun ν H => W.I ν H ∧ ∃ ns : List Int, H a = some (.lst (ns.map V.int)) ∧ P ν ns
  hI := fun {ν H H'} h i => ⟨W.hI (fun b hb => h b (List.mem_cons_of_mem _ hb)) i.1, by obtain ⟨ns, e, p⟩ := i.2; exact ⟨ns, (h a List.mem_cons_self).trans e, p⟩⟩
  hJ := fun {ν H} i b hb => by
    rcases List.mem_cons.mp hb with rfl | hb
    · obtain ⟨ns, e, _⟩ := i.2; exact ⟨_, e⟩
    · exact W.hJ i.1 b hb
  G := W.G
def spD {ι : Type} (K : PySem.W.Frag) (W : Wd) (js : List V) (arg : ι → List PyData) (pre : ι → Nat → Prop) (post : ι → Nat → Nat → Sl → Prop) : Sp := fun vs H Q _ => ∃ (i : ι) (ν : Nat) (S : List Addr) (us : List V), vs = js ++ us ∧ (∀ a ∈ W.J, a ∈ S) ∧ (∀ a ∈ S, ∃ o, H a = some o) ∧ W.I ν H ∧ Same W.G (hid W.J H) ∧
  Dds K (hid S H) us (arg i) ∧ pre i ν ∧ ∀ ν' s v H', post i ν ν' s → RetOk K W S (hid W.J H) s v H' ν' → Q v H'
section
variable {ι : Type} {K : PySem.W.Frag} {W : Wd} {js : List V} {arg : ι → List PyData} {pre : ι → Nat → Prop} {post : ι → Nat → Nat → Sl → Prop} {S : List Addr} {B : Hp} {ρ : List Sl} {σ : L2.St} {H H' : Hp} {ν : Nat}
def AllSl (K : PySem.W.Frag) (Hh H : Hp) (ρ : List Sl) (σ : L2.St) : Prop := σ.length = ρ.length ∧ ∀ (i : Nat) (s : Sl), ρ[i]? = some s → ∃ u, σ[i]? = some u ∧ SlOk K Hh H s u
theorem AllSl.app {Hh H : Hp} {ρ1 ρ2 : List Sl} {σ1 σ2 : L2.St} (a : AllSl K Hh H ρ1 σ1) (b : AllSl K Hh H ρ2 σ2) : AllSl K Hh H (ρ1 ++ ρ2) (σ1 ++ σ2) := by
  refine ⟨by rw [List.length_append, List.length_append, a.1, b.1], fun i s e => ?_⟩
  by_cases h : i < ρ1.length
  · rw [List.getElem?_append_left h] at e
    obtain ⟨u, eu, ok⟩ := a.2 i s e
    exact ⟨u, by rw [List.getElem?_append_left (by rw [a.1]; exact h)]; exact eu, ok⟩
  · rw [List.getElem?_append_right (by omega)] at e
    obtain ⟨u, eu, ok⟩ := b.2 _ s e
    exact ⟨u, by rw [List.getElem?_append_right (by rw [a.1]; omega), a.1]; exact eu, ok⟩
theorem AllSl.jss {Hh H : Hp} (js : List V) : AllSl K Hh H (js.map .at) (js.map some) := by
  refine ⟨by simp, fun i s e => ?_⟩
  rw [List.getElem?_map] at e
  cases c : js[i]? with
  | none => rw [c] at e; cases e
  | some v =>
    rw [c] at e; cases e
    exact ⟨some v, by rw [List.getElem?_map, c]; rfl, rfl⟩
theorem AllSl.ds {Hh H : Hp} : ∀ {us : List V} {xs : List PyData}, Dds K Hh us xs → AllSl K Hh H (xs.map .d) (us.map some)
  | _, [], h => by cases h; exact ⟨rfl, fun i s e => by simp at e⟩
  | _, x :: xs, h => by
    cases h with
    | @cons v vs _ _ h1 h2 =>
      have := AllSl.ds (H := H) h2
      refine AllSl.app (ρ1 := [.d x]) (σ1 := [some v]) ⟨rfl, fun i s e => ?_⟩ this
      cases i with
      | zero => cases e; exact ⟨some v, rfl, v, rfl, h1⟩
      | succ i => simp at e
theorem AllSl.un {Hh H : Hp} (n : Nat) : AllSl K Hh H (List.replicate n .un) (List.replicate n none) := by
  refine ⟨by simp, fun i s e => ?_⟩
  rw [List.getElem?_replicate] at e
  split at e
  · cases e
    rename_i h
    exact ⟨none, by rw [List.getElem?_replicate, if_pos h], trivial⟩
  · cases e
theorem ownA_start (js : List V) (xs : List PyData) (n : Nat) : ownA (js.map .at ++ (xs.map .d ++ List.replicate n .un)) = [] := by
  apply List.eq_nil_iff_forall_not_mem.mpr
  intro a h
  obtain ⟨i, ys, e⟩ := mem_ownA.mp h
  have m := List.mem_of_getElem? e
  simp [List.mem_append, List.mem_map, List.mem_replicate] at m
theorem fn_run {N : List Str} {vs : List V} {Q : VK} {E : XK} {t : TS} (h : spD K W js arg pre post vs H Q E)
    (hd : ∀ i ν, pre i ν → Ds K W (js.map .at ++ ((arg i).map .d ++ List.replicate (N.length - (js.length + (arg i).length)) .un)) ν t ⟨fun ν' _ => post i ν ν' (.d .none), fun ν' s => post i ν ν' s, fun _ _ => False, fun _ _ => False⟩) :
    t { nx := fun _ H' => Q .non H', rt := Q } (L2.start N vs) H := by
  obtain ⟨i, ν, S, us, rfl, hJS, hal, hI, hG, hD, hp, q⟩ := h
  have hl := hD.len
  have e1 : L2.start N (js ++ us) = js.map some ++ (us.map some ++ List.replicate (N.length - (js.length + (arg i).length)) none) := by
    unfold L2.start
    rw [List.map_append, List.append_assoc, List.length_append, hl]
  rw [e1]
  have eo := ownA_start js (arg i) (N.length - (js.length + (arg i).length))
  have al := (AllSl.jss (K := K) (Hh := hid S H) (H := H) js).app ((AllSl.ds (H := H) hD).app (AllSl.un (N.length - (js.length + (arg i).length))))
  refine hd i ν hp S (hid W.J H) _ H _ ⟨al.1, fun j s e => ?_, fun j k a xs ys e => ?_, fun a ha => ?_, hJS, ?_, hI, fun a ha => ?_, hG⟩ ⟨fun _ ρ σ H' st h => q _ _ _ _ h (st.ret .non), fun _ s v H' r h => q _ _ _ _ h r, fun _ _ _ _ _ h => h.elim, fun _ _ _ _ _ h => h.elim⟩
  · rw [eo, List.append_nil]; exact al.2 j s e
  · have : a ∈ ownA (js.map .at ++ ((arg i).map .d ++ List.replicate (N.length - (js.length + (arg i).length)) .un)) := mem_ownA.mpr ⟨_, _, e⟩
    rw [eo] at this; cases this
  · rw [eo] at ha; cases ha
  · rw [eo, List.append_nil]; exact fun _ _ h => h
  · by_cases hj : a ∈ W.J
    · exact .inl hj
    · obtain ⟨o, e⟩ := hal a ha
      exact .inr ⟨o, hid_of e hj⟩
theorem Sta.G (st : Sta K W S B ρ σ H ν) : Same W.G (hid W.J H) := st.gb.trans (st.fr.trans (hid_sub fun b hb => List.mem_append_left _ hb))
variable {tr : TA} {Φ : Nat → PyData → Prop} {Ψ : Nat → List PyData → Prop}
theorem call_in (st : Sta K W S B ρ σ H ν) {i : ι} {us : List V} (d : Dds K (hid (S ++ ownA ρ) H) us (arg i)) (hp : pre i ν) {Q : VK} {E : XK} (q : ∀ ν' s v H', post i ν ν' s → RetOk K W (S ++ ownA ρ) (hid W.J H) s v H' ν' → Q v H') : spD K W js arg pre post (js ++ us) H Q E :=
  ⟨i, ν, S ++ ownA ρ, us, rfl, fun a ha => List.mem_append_left _ (st.js a ha), st.alive, st.inv, st.G, d, hp, q⟩
/-- a def that may change the world's own objects, the first of which is handed -/
theorem de_call {sp : Sp} {n : Nat} {j : V} (hs : ∀ vs H Q, spD K W [j] arg pre post vs H Q E0 → sp vs H Q E0) (hj : ρ[n]? = some (.at j)) (h : Da K W ρ ν tr fun ν1 xs => ∃ i, xs = arg i ∧ pre i ν1 ∧ ∀ ν2 s, post i ν1 ν2 s → ∃ y, s = .d y ∧ Φ ν2 y) : De K W ρ ν (tCall sp [] E0 (tCons (tVar n) tr)) Φ := fun S B σ H Q st q => by
  obtain ⟨u, eu, e1⟩ := st.sl n _ hj
  subst e1
  refine ⟨j, eu, h S B σ H _ st fun ν1 vs H1 xs k1 i1 d1 ⟨i, ex, hp, hq⟩ => ?_⟩
  subst ex
  have st1 := st.keep k1 i1
  rw [List.append_nil]
  refine hs _ _ _ (call_in (js := [j]) st1 d1 hp fun ν2 s v H2 hs r => ?_)
  obtain ⟨y, rfl, hΦ⟩ := hq ν2 s hs
  exact q ν2 v H2 y (k1.trans r.1) r.2.1 r.2.2 hΦ
theorem do_call {sp : Sp} {n : Nat} {j : V} (hs : ∀ vs H Q, spD K W [j] arg pre post vs H Q E0 → sp vs H Q E0) (hj : ρ[n]? = some (.at j)) (h : Da K W ρ ν tr fun ν1 xs => ∃ i, xs = arg i ∧ pre i ν1 ∧ ∀ ν2 s, post i ν1 ν2 s → ∃ a ys, s = .own a ys ∧ Ψ ν2 ys) : Do K W ρ ν (tCall sp [] E0 (tCons (tVar n) tr)) Ψ := fun S B σ H Q st q => by
  obtain ⟨u, eu, e1⟩ := st.sl n _ hj
  subst e1
  refine ⟨j, eu, h S B σ H _ st fun ν1 vs H1 xs k1 i1 d1 ⟨i, ex, hp, hq⟩ => ?_⟩
  subst ex
  have st1 := st.keep k1 i1
  rw [List.append_nil]
  refine hs _ _ _ (call_in (js := [j]) st1 d1 hp fun ν2 s v H2 hs r => ?_)
  obtain ⟨a, ys, rfl, hΦ⟩ := hq ν2 s hs
  obtain ⟨r1, r2, rfl, r4, r5, vs', r6, r7⟩ := r
  have nj : a ∉ W.J := fun z => r4 (List.mem_append_left _ (st.js a z))
  have n1 : H1 a = none := by
    cases c : H1 a with
    | none => rfl
    | some o => rw [hid_of c nj] at r5; cases r5
  exact q ν2 a H2 vs' ys (k1.trans r1) r2 (k1.none nj n1) r6 r7 hΦ
/-- a def that changes nothing -/
theorem call_in0 (st : Sta K W S B ρ σ H ν) {i : ι} {us : List V} (d : Dds K (hid (S ++ ownA ρ) H) us (arg i)) (hp : pre i 0) {Q : VK} {E : XK} (q : ∀ ν' s v H', post i 0 ν' s → RetOk K Wn (S ++ ownA ρ) (hid [] H) s v H' ν' → Q v H') : spD K Wn [] arg pre post us H Q E :=
  ⟨i, 0, S ++ ownA ρ, us, rfl, fun a ha => (nomatch ha), st.alive, trivial, fun _ _ h => (nomatch h), d, hp, q⟩
theorem kp_of0 (st : Sta K W S B ρ σ H ν) (k : Same (hid [] H) (hid [] H')) : Kp W.J H H' ∧ W.I ν H' := by
  have s : Same H H' := fun b o e => (of_hid (k b o (hid_of e (by simp)))).1
  exact ⟨Kp.same s, W.hI (fun a ha => by obtain ⟨o, eo⟩ := W.hJ st.inv a ha; rw [eo, s _ _ eo]) st.inv⟩
theorem de_call0 (h : Da K W ρ ν tr fun ν1 xs => ∃ i, xs = arg i ∧ pre i 0 ∧ ∀ ν2 s, post i 0 ν2 s → ∃ y, s = .d y ∧ Φ ν1 y) : De K W ρ ν (tCall (spD K Wn [] arg pre post) [] E0 tr) Φ := fun S B σ H Q st q => by
  refine h S B σ H _ st fun ν1 vs H1 xs k1 i1 d1 ⟨i, ex, hp, hq⟩ => ?_
  subst ex
  have st1 := st.keep k1 i1
  rw [List.append_nil]
  refine call_in0 st1 d1 hp fun ν2 s v H2 hs r => ?_
  obtain ⟨y, rfl, hΦ⟩ := hq ν2 s hs
  obtain ⟨k2, i2⟩ := kp_of0 st1 r.1
  exact q ν1 v H2 y (k1.trans k2) i2 r.2.2 hΦ
theorem do_call0 (h : Da K W ρ ν tr fun ν1 xs => ∃ i, xs = arg i ∧ pre i 0 ∧ ∀ ν2 s, post i 0 ν2 s → ∃ a ys, s = .own a ys ∧ Ψ ν1 ys) : Do K W ρ ν (tCall (spD K Wn [] arg pre post) [] E0 tr) Ψ := fun S B σ H Q st q => by
  refine h S B σ H _ st fun ν1 vs H1 xs k1 i1 d1 ⟨i, ex, hp, hq⟩ => ?_
  subst ex
  have st1 := st.keep k1 i1
  rw [List.append_nil]
  refine call_in0 st1 d1 hp fun ν2 s v H2 hs r => ?_
  obtain ⟨a, ys, rfl, hΦ⟩ := hq ν2 s hs
  obtain ⟨k2, i2⟩ := kp_of0 st1 r.1
  obtain ⟨r1, r2, rfl, r4, r5, vs', r6, r7⟩ := r
  have n1 : H1 a = none := by
    cases c : H1 a with
    | none => rfl
    | some o => rw [hid_of c (by simp)] at r5; cases r5
  exact q ν1 a H2 vs' ys (k1.trans k2) i2 (k1.none (fun z => r4 (List.mem_append_left _ (st.js a z))) n1) r6 r7 hΦ
/-- .. by names -/
theorem de_kw {gV : List V → List V} (gD : List PyData → List PyData) (h : Da K W ρ ν tr fun ν1 xs => (∀ {H : Hp} {vs : List V}, Dds K H vs xs → Dds K H (gV vs) (gD xs)) ∧ ∃ i, gD xs = arg i ∧ pre i 0 ∧ ∀ ν2 s, post i 0 ν2 s → ∃ y, s = .d y ∧ Φ ν1 y) : De K W ρ ν (tKw (spD K Wn [] arg pre post) gV tr) Φ := fun S B σ H Q st q => by
  refine h S B σ H _ st fun ν1 vs H1 xs k1 i1 d1 ⟨hg, i, ex, hp, hq⟩ => ?_
  have st1 := st.keep k1 i1
  have d2 := hg d1
  rw [ex] at d2
  refine call_in0 st1 d2 hp fun ν2 s v H2 hs r => ?_
  obtain ⟨y, rfl, hΦ⟩ := hq ν2 s hs
  obtain ⟨k2, i2⟩ := kp_of0 st1 r.1
  exact q ν1 v H2 y (k1.trans k2) i2 r.2.2 hΦ
/-! ## an own list of numbers, handed to a def that changes it -/
theorem Sta.open_ (st : Sta K W S B ρ σ H ν) {i : Nat} {a : Addr} {ns : List Int} {P : Nat → List Int → Prop} {ν0 : Nat} (h : ρ[i]? = some (.own a (ns.map .int))) (hp : P ν0 ns) (hν : W.I ν0 H) : Sta K (W.add a P) (a :: S) B (ρ.set i (.at (.ref a))) σ H ν0 := by
  have hi : i < ρ.length := lt_of_at h
  have ha : a ∈ ownA ρ := mem_ownA.mpr ⟨_, _, h⟩
  have mo : ∀ b, b ∈ ownA (ρ.set i (.at (.ref a))) ↔ b ≠ a ∧ b ∈ ownA ρ := fun b => by
    rw [mem_ownA, mem_ownA]
    constructor
    · rintro ⟨j, ys, e⟩
      rcases get_set e with ⟨_, z⟩ | ⟨ne, e⟩
      · cases z
      · rename_i e0
        refine ⟨?_, j, ys, e⟩
        intro z
        rw [z] at e
        exact ne (st.nd _ _ _ _ _ h e)
    · rintro ⟨ne, j, ys, e⟩
      refine ⟨j, ys, ?_⟩
      rw [List.getElem?_set_ne (fun z => ne (by rw [← z, h] at e; cases e; rfl))]
      exact e
  have eh : ∀ {T : List Addr}, hid (a :: T ++ ownA (ρ.set i (.at (.ref a)))) H = hid (T ++ ownA ρ) H := fun {T} => hid_congr fun b => by
    simp only [List.mem_append, List.mem_cons, mo]
    constructor
    · rintro ((rfl | z) | ⟨_, z⟩)
      · exact .inr ha
      · exact .inl z
      · exact .inr z
    · rintro (z | z)
      · exact .inl (.inr z)
      · by_cases e : b = a
        · exact .inl (.inl e)
        · exact .inr ⟨e, z⟩
  have ei : ∃ vs, H a = some (.lst vs) ∧ vs = ns.map V.int := by
    obtain ⟨u, eu, e1, vs, e2, d⟩ := st.sl i _ h
    exact ⟨vs, e2, d.ints_eq⟩
  refine ⟨by rw [List.length_set]; exact st.len, fun j r e => ?_, fun j k b ys zs e1 e2 => ?_, fun b hb z => ?_, fun b hb => ?_, ?_, ⟨hν, ns, ?_, hp⟩, fun b hb => ?_, st.gb⟩
  · rw [eh]
    rcases get_set e with ⟨rfl, rfl⟩ | ⟨ne, e'⟩
    · obtain ⟨u, eu, e1, _⟩ := st.sl i _ h
      exact ⟨u, eu, e1⟩
    · exact st.sl j r e'
  · rcases get_set e1 with ⟨_, z⟩ | ⟨_, e1⟩
    · cases z
    rcases get_set e2 with ⟨_, z⟩ | ⟨_, e2⟩
    · cases z
    exact st.nd j k b ys zs e1 e2
  · rcases List.mem_cons.mp z with rfl | z
    · exact ((mo b).mp hb).1 rfl
    · exact st.out b ((mo b).mp hb).2 z
  · rcases List.mem_cons.mp hb with rfl | hb
    · exact List.mem_cons_self
    · exact List.mem_cons_of_mem _ (st.js b hb)
  · show Same B (hid (a :: W.J ++ ownA (ρ.set i (.at (.ref a)))) H)
    rw [eh]; exact st.fr
  · obtain ⟨vs, e2, rfl⟩ := ei; exact e2
  · rcases List.mem_cons.mp hb with rfl | hb
    · exact .inl List.mem_cons_self
    · exact (st.al b hb).imp (List.mem_cons_of_mem _) id
theorem Sta.shut_ {a : Addr} {P : Nat → List Int → Prop} (st : Sta K (W.add a P) (a :: S) B ρ σ H ν) (js : ∀ b ∈ W.J, b ∈ S) (al : ∀ b ∈ S, b ∈ W.J ∨ ∃ o, B b = some o) : Sta K W S B ρ σ H ν := by
  have sm : ∀ {T T' : List Addr}, (∀ b ∈ T', b ∈ T) → Same (hid T H) (hid T' H) := fun h => hid_sub h
  have s1 : Same (hid (a :: S ++ ownA ρ) H) (hid (S ++ ownA ρ) H) := hid_sub fun b hb => List.mem_cons_of_mem _ hb
  refine ⟨st.len, fun j r e => ?_, st.nd, fun b hb z => st.out b hb (List.mem_cons_of_mem _ z), js, st.fr.trans (hid_sub fun b hb => List.mem_cons_of_mem _ hb), st.inv.1, al, st.gb⟩
  obtain ⟨u, eu, h⟩ := st.sl j r e
  refine ⟨u, eu, ?_⟩
  cases r with
  | un => trivial
  | d x => obtain ⟨v, e1, d⟩ := h; exact ⟨v, e1, d.same s1⟩
  | own b ys => obtain ⟨e1, us, e2, d⟩ := h; exact ⟨e1, us, e2, d.same s1⟩
  | «at» v => exact h
theorem RetOk.shut_ {a : Addr} {P : Nat → List Int → Prop} {s : Sl} {v : V} (r : RetOk K (W.add a P) (a :: S) B s v H ν) : RetOk K W S B s v H ν := by
  obtain ⟨r1, r2, r3⟩ := r
  refine ⟨r1.trans (hid_sub fun b hb => List.mem_cons_of_mem _ hb), r2.1, ?_⟩
  cases s with
  | un => trivial
  | d x => exact r3.same (hid_sub fun b hb => List.mem_cons_of_mem _ hb)
  | «at» w => exact r3
  | own b ys =>
    obtain ⟨q1, q2, q3, vs, q4, q5⟩ := r3
    refine ⟨q1, fun z => q2 (List.mem_cons_of_mem _ z), q3, vs, q4, q5.same (hid_sub fun c hc => ?_)⟩
    rcases List.mem_cons.mp hc with rfl | hc
    · exact List.mem_cons_self
    · exact List.mem_cons_of_mem _ (List.mem_cons_of_mem _ hc)
theorem ds_open {t : TS} {P : Po} (i : Nat) {a : Addr} {ns : List Int} {J : Nat → List Int → Prop} (ν0 : Nat) (hν : ∀ H, W.I ν H → W.I ν0 H) (h : ρ[i]? = some (.own a (ns.map .int))) (hp : J ν0 ns) (hd : Ds K (W.add a J) (ρ.set i (.at (.ref a))) ν0 t P) : Ds K W ρ ν t P := fun S B σ H D st e =>
  hd (a :: S) B σ H D (st.open_ h hp (hν H st.inv)) ⟨fun _ ρ' σ' H' st' h' => e.nx _ ρ' σ' H' (st'.shut_ st.js st.al) h', fun _ s v H' r h' => e.rt _ s v H' r.shut_ h', fun _ ρ' σ' H' st' h' => e.bk _ ρ' σ' H' (st'.shut_ st.js st.al) h', fun _ ρ' σ' H' st' h' => e.ct _ ρ' σ' H' (st'.shut_ st.js st.al) h'⟩
end
/-! ## built-in things -/
section
variable {K : PySem.W.Frag} {W : Wd} {ρ : List Sl} {ta tb te : TE} {tr : TA} {ν : Nat} {Φ : Nat → PyData → Prop} {Ψ : Nat → List PyData → Prop} {Χ : Nat → Bool → Prop}
/-- an own list read as data, where plain data comes of it -/
theorem de_peek {t : TE} (i : Nat) {a : Addr} {xs : List PyData} (ho : ρ[i]? = some (.own a xs)) (h : De K W (ρ.set i (.d (.list xs))) ν t fun ν1 x => flatD x = true ∧ Φ ν1 x) : De K W ρ ν t Φ := fun S B σ H Q st q =>
  h S B σ H Q (st.freeze ho) fun _ v H' x k i' d ⟨hf, hΦ⟩ => q _ v H' x k i' (flat_dd hf d) hΦ
theorem dt_peek {t : TT} (i : Nat) {a : Addr} {xs : List PyData} (ho : ρ[i]? = some (.own a xs)) (h : Dt K W (ρ.set i (.d (.list xs))) ν t Χ) : Dt K W ρ ν t Χ := fun S B σ H Q st q => h S B σ H Q (st.freeze ho) q
theorem flat_dds {H H' : Hp} : ∀ {xs : List PyData} {vs : List V}, (∀ x ∈ xs, flatD x = true) → Dds K H vs xs → Dds K H' vs xs
  | [], _, _, d => by cases d; exact .nil
  | x :: xs, _, h, d => by
    cases d with
    | cons d1 d2 => exact .cons (flat_dd (h x List.mem_cons_self) d1) (flat_dds (fun y hy => h y (List.mem_cons_of_mem _ hy)) d2)
theorem do_peek {t : TE} (i : Nat) {a : Addr} {xs : List PyData} (ho : ρ[i]? = some (.own a xs)) (h : Do K W (ρ.set i (.d (.list xs))) ν t fun ν1 ys => (∀ y ∈ ys, flatD y = true) ∧ Ψ ν1 ys) : Do K W ρ ν t Ψ := fun S B σ H Q st q =>
  h S B σ H Q (st.freeze ho) fun _ b H' vs ys k i' n e d ⟨hf, hΨ⟩ => q _ b H' vs ys k i' n e (flat_dds hf d) hΨ
theorem de_len (h : De K W ρ ν te fun ν1 x => ∃ xs, (x = .list xs ∨ x = .tuple xs) ∧ Φ ν1 (.int xs.length)) : De K W ρ ν (tCB (fun as H Q => ∃ p ys, as = [.ref p] ∧ (SqL K H p ys ∨ SqT K H p ys) ∧ Q (.int ys.length) H) (tCons te tNil)) Φ := fun S B σ H Q st q => by
  refine h S B σ H _ st fun _ v H1 x k1 i1 d1 ⟨xs, ex, hΦ⟩ => ?_
  rcases ex with rfl | rfl
  · cases d1 with
    | lst e ds => refine ⟨_, _, rfl, .inl (.inl (.inl (of_hid e).1)), ?_⟩; rw [ds.len]; exact q _ _ _ _ k1 i1 (.int _) hΦ
  · cases d1 with
    | tup e ds => refine ⟨_, _, rfl, .inr (same_tup hid_same e), ?_⟩; rw [ds.len]; exact q _ _ _ _ k1 i1 (.int _) hΦ
theorem de_abs (h : De K W ρ ν te fun ν1 x => ∃ i, x = .int i ∧ Φ ν1 (.int (if i < 0 then -i else i))) : De K W ρ ν (tCB (fun xs H Q => ∃ i, xs = [.int i] ∧ Q (.int (if i < 0 then -i else i)) H) (tCons te tNil)) Φ := fun S B σ H Q st q => by
  refine h S B σ H _ st fun _ v H1 x k1 i1 d1 ⟨i, ex, hΦ⟩ => ?_
  subst ex; cases d1
  exact ⟨i, rfl, q _ _ _ _ k1 i1 (.int _) hΦ⟩
theorem de_two {g : Int → Int → Int} (h : De K W ρ ν ta fun ν1 x => De K W ρ ν1 tb fun ν2 y => ∃ i j, x = .int i ∧ y = .int j ∧ Φ ν2 (.int (g i j))) : De K W ρ ν (tCB (fun xs H Q => ∃ i j, xs = [.int i, .int j] ∧ Q (.int (g i j)) H) (tCons ta (tCons tb tNil))) Φ := fun S B σ H Q st q => by
  refine h S B σ H _ st fun _ v H1 x k1 i1 d1 h1 => ?_
  refine h1 S B σ H1 _ (st.keep k1 i1) fun _ w H2 y k2 i2 d2 ⟨i, j, ex, ey, hΦ⟩ => ?_
  subst ex ey; cases d1; cases d2
  exact ⟨i, j, rfl, q _ _ _ _ (k1.trans k2) i2 (.int _) hΦ⟩
theorem de_maxL (h : De K W ρ ν te fun ν1 x => ∃ ns : List Int, x = .list (ns.map .int) ∧ 0 < ns.length ∧ ∀ m, m ∈ ns → (∀ y, y ∈ ns → y ≤ m) → Φ ν1 (.int m)) : De K W ρ ν (tCB (rMax K) (tCons te tNil)) Φ := fun S B σ H Q st q => by
  refine h S B σ H _ st fun _ v H1 x k1 i1 d1 ⟨ns, ex, hl, hΦ⟩ => ?_
  subst ex
  cases d1 with
  | lst e ds =>
    cases ds.ints_eq
    exact ⟨_, ns, rfl, .inl (.inl (of_hid e).1), hl, fun m h1 h2 => q _ _ _ _ k1 i1 (.int _) (hΦ m h1 h2)⟩
theorem de_minL (h : De K W ρ ν te fun ν1 x => ∃ ns : List Int, x = .list (ns.map .int) ∧ 0 < ns.length ∧ ∀ m, m ∈ ns → (∀ y, y ∈ ns → m ≤ y) → Φ ν1 (.int m)) : De K W ρ ν (tCB (rMin K) (tCons te tNil)) Φ := fun S B σ H Q st q => by
  refine h S B σ H _ st fun _ v H1 x k1 i1 d1 ⟨ns, ex, hl, hΦ⟩ => ?_
  subst ex
  cases d1 with
  | lst e ds =>
    cases ds.ints_eq
    exact ⟨_, ns, rfl, .inl (.inl (of_hid e).1), hl, fun m h1 h2 => q _ _ _ _ k1 i1 (.int _) (hΦ m h1 h2)⟩
theorem de_sum (h : De K W ρ ν te fun ν1 x => ∃ ns : List Int, x = .list (ns.map .int) ∧ Φ ν1 (.int ns.sum)) : De K W ρ ν (tCB (rSum K) (tCons te tNil)) Φ := fun S B σ H Q st q => by
  refine h S B σ H _ st fun _ v H1 x k1 i1 d1 ⟨ns, ex, hΦ⟩ => ?_
  subst ex
  cases d1 with
  | lst e ds =>
    cases ds.ints_eq
    exact ⟨_, ns, rfl, .inl (.inl (of_hid e).1), q _ _ _ _ k1 i1 (.int _) hΦ⟩
theorem de_sumT (h : De K W ρ ν te fun ν1 x => ∃ ns : List Int, x = .tuple (ns.map .int) ∧ Φ ν1 (.int ns.sum)) : De K W ρ ν (tCB (rSumT K) (tCons te tNil)) Φ := fun S B σ H Q st q => by
  refine h S B σ H _ st fun _ v H1 x k1 i1 d1 ⟨ns, ex, hΦ⟩ => ?_
  subst ex
  cases d1 with
  | tup e ds =>
    cases ds.ints_eq
    exact ⟨_, ns, rfl, same_tup hid_same e, q _ _ _ _ k1 i1 (.int _) hΦ⟩
theorem de_any (h : De K W ρ ν te fun ν1 x => ∃ bs : List Bool, x = .list (bs.map .bool) ∧ Φ ν1 (.bool (bs.any id))) : De K W ρ ν (tCB (rAny K) (tCons te tNil)) Φ := fun S B σ H Q st q => by
  refine h S B σ H _ st fun _ v H1 x k1 i1 d1 ⟨ns, ex, hΦ⟩ => ?_
  subst ex
  cases d1 with
  | lst e ds =>
    cases ds.bools_eq
    exact ⟨_, ns, rfl, .inl (.inl (of_hid e).1), q _ _ _ _ k1 i1 (.bl _) hΦ⟩
theorem de_all (h : De K W ρ ν te fun ν1 x => ∃ bs : List Bool, x = .list (bs.map .bool) ∧ Φ ν1 (.bool (bs.all id))) : De K W ρ ν (tCB (rAll K) (tCons te tNil)) Φ := fun S B σ H Q st q => by
  refine h S B σ H _ st fun _ v H1 x k1 i1 d1 ⟨ns, ex, hΦ⟩ => ?_
  subst ex
  cases d1 with
  | lst e ds =>
    cases ds.bools_eq
    exact ⟨_, ns, rfl, .inl (.inl (of_hid e).1), q _ _ _ _ k1 i1 (.bl _) hΦ⟩
theorem de_intB (h : De K W ρ ν te fun ν1 x => ∃ b, x = .bool b ∧ Φ ν1 (.int (if b then 1 else 0))) : De K W ρ ν (tCB (fun xs H Q => (∃ i, xs = [.int i] ∧ Q (.int i) H) ∨ ∃ k, xs = [.bl k] ∧ Q (.int (if k then 1 else 0)) H) (tCons te tNil)) Φ := fun S B σ H Q st q => by
  refine h S B σ H _ st fun _ v H1 x k1 i1 d1 ⟨b, ex, hΦ⟩ => ?_
  subst ex; cases d1
  exact .inr ⟨b, rfl, q _ _ _ _ k1 i1 (.int _) hΦ⟩
theorem do_list (h : De K W ρ ν te fun ν1 x => ∃ xs, (x = .list xs ∨ x = .tuple xs) ∧ Ψ ν1 xs) : Do K W ρ ν (tCB (fun xs H Q => ∃ p ys, xs = [.ref p] ∧ (SqL K H p ys ∨ SqT K H p ys) ∧ ∀ l, H l = none → Q (.ref l) (upd H l (.lst ys))) (tCons te tNil)) Ψ := fun S B σ H Q st q => by
  refine h S B σ H _ st fun _ v H1 x k1 i1 d1 ⟨xs, ex, hΨ⟩ => ?_
  have st1 := st.keep k1 i1
  have fin : ∀ p ys, v = .ref p → (SqL K H1 p ys ∨ SqT K H1 p ys) → Dds K (hid (S ++ ownA ρ) H1) ys xs → ∃ p ys, [v] = [.ref p] ∧ (SqL K H1 p ys ∨ SqT K H1 p ys) ∧ ∀ l, H1 l = none → Q (.ref l) (upd H1 l (.lst ys)) := fun p ys e1 e2 ds => by
    refine ⟨p, ys, by rw [e1], e2, fun l nl => ?_⟩
    have f := st1.fresh nl
    exact q _ _ _ _ _ (k1.trans (st1.new nl).1) (st1.new nl).2 (k1.none f.2.2 nl) upd_same (ds.same (hid_new nl)) hΨ
  rcases ex with rfl | rfl
  · cases d1 with
    | lst e ds => exact fin _ _ rfl (.inl (.inl (.inl (of_hid e).1))) ds
  · cases d1 with
    | tup e ds => exact fin _ _ rfl (.inr (same_tup hid_same e)) ds
/-- list(x) of an own list -/
theorem do_listO {i : Nat} {a : Addr} {xs : List PyData} (ho : ρ[i]? = some (.own a xs)) (h : Ψ ν xs) : Do K W ρ ν (tCB (fun xs H Q => ∃ p ys, xs = [.ref p] ∧ (SqL K H p ys ∨ SqT K H p ys) ∧ ∀ l, H l = none → Q (.ref l) (upd H l (.lst ys))) (tCons (tVar i) tNil)) Ψ := fun S B σ H Q st q => by
  obtain ⟨u, eu, e1, vs, e2, d⟩ := st.sl i _ ho
  subst e1
  refine ⟨_, eu, a, vs, rfl, .inl (.inl (.inl e2)), fun l nl => ?_⟩
  have f := st.fresh nl
  exact q _ _ _ _ _ (st.new nl).1 (st.new nl).2 nl upd_same (d.same (hid_new nl)) h
theorem do_lstRg1 (h : De K W ρ ν te fun ν1 x => ∃ n, x = .int n ∧ RgOk 0 n ∧ ∀ vs : List Int, rgV 0 n = vs.map V.int → Ψ ν1 (vs.map .int)) (hr : ∀ n, ∃ vs : List Int, rgV 0 n = vs.map V.int) : Do K W ρ ν (tLstRg (tRg1 te)) Ψ := fun S B σ H Q st q => by
  refine h S B σ H _ st fun _ v H1 x k1 i1 d1 ⟨n, ex, hn, hΨ⟩ => ?_
  subst ex; cases d1
  have st1 := st.keep k1 i1
  refine ⟨n, rfl, hn, fun l nl => ?_⟩
  obtain ⟨vs, ev⟩ := hr n
  have f := st1.fresh nl
  rw [ev]
  exact q _ _ _ _ _ (k1.trans (st1.new nl).1) (st1.new nl).2 (k1.none f.2.2 nl) upd_same (Dds.ints vs) (hΨ vs ev)
/-! slices -/
def Dp0 (K : PySem.W.Frag) (W : Wd) (ρ : List Sl) (ν : Nat) (t : TO) (Θ : Nat → Option Int → Prop) : Prop := ∀ S B σ H Q, Sta K W S B ρ σ H ν → (∀ ν' o H', Kp W.J H H' → W.I ν' H' → Θ ν' o → Q o H') → t σ H Q
theorem dp_no {Θ : Nat → Option Int → Prop} (h : Θ ν none) : Dp0 K W ρ ν tNoPart Θ := fun S B σ H Q st q => q _ _ _ Kp.refl st.inv h
theorem dp_part {Θ : Nat → Option Int → Prop} (h : De K W ρ ν te fun ν1 x => ∃ i, x = .int i ∧ Θ ν1 (some i)) : Dp0 K W ρ ν (tPart te) Θ := fun S B σ H Q st q => by
  refine h S B σ H _ st fun _ v H1 x k1 i1 d1 ⟨i, ex, hΘ⟩ => ?_
  subst ex; cases d1
  exact ⟨i, rfl, q _ _ _ k1 i1 hΘ⟩
def cutD (xs : List PyData) (lo hi : Option Int) : List PyData := (xs.drop (HT.sIx xs.length 0 lo)).take (HT.sIx xs.length xs.length hi - HT.sIx xs.length 0 lo)
theorem Dds.cut {H : Hp} {vs : List V} {xs : List PyData} {lo hi : Option Int} (d : Dds K H vs xs) : Dds K H (cutV vs lo hi) (cutD xs lo hi) := by
  unfold cutV cutD
  rw [d.len]
  exact (d.drop _).take _
theorem do_slL {tl th : TO} (h : De K W ρ ν te fun ν1 x => Dp0 K W ρ ν1 tl fun ν2 lo => Dp0 K W ρ ν2 th fun ν3 hi => ∃ xs, x = .list xs ∧ Ψ ν3 (cutD xs lo hi)) : Do K W ρ ν (tSl (rSlL K) te tl th) Ψ := fun S B σ H Q st q => by
  refine h S B σ H _ st fun _ v H1 x k1 i1 d1 h1 => ?_
  refine h1 S B σ H1 _ (st.keep k1 i1) fun _ lo H2 k2 i2 h2 => ?_
  refine h2 S B σ H2 _ (st.keep (k1.trans k2) i2) fun _ hi H3 k3 i3 ⟨xs, ex, hΨ⟩ => ?_
  subst ex
  have k := (k1.trans k2).trans k3
  have st3 := st.keep k i3
  cases d1.same ((st.keep k1 i1).kpS (k2.trans k3)) with
  | lst e ds =>
    refine ⟨_, _, rfl, .inl (.inl (of_hid e).1), fun l nl => ?_⟩
    have f := st3.fresh nl
    exact q _ _ _ _ _ (k.trans (st3.new nl).1) (st3.new nl).2 (k.none f.2.2 nl) upd_same (ds.cut.same (hid_new nl)) hΨ
theorem de_slT {tl th : TO} (h : De K W ρ ν te fun ν1 x => Dp0 K W ρ ν1 tl fun ν2 lo => Dp0 K W ρ ν2 th fun ν3 hi => ∃ xs, x = .tuple xs ∧ ¬ (HT.sIx xs.length 0 lo = 0 ∧ HT.sIx xs.length xs.length hi = xs.length) ∧ Φ ν3 (.tuple (cutD xs lo hi))) : De K W ρ ν (tSl (rSlT K) te tl th) Φ := fun S B σ H Q st q => by
  refine h S B σ H _ st fun _ v H1 x k1 i1 d1 h1 => ?_
  refine h1 S B σ H1 _ (st.keep k1 i1) fun _ lo H2 k2 i2 h2 => ?_
  refine h2 S B σ H2 _ (st.keep (k1.trans k2) i2) fun _ hi H3 k3 i3 ⟨xs, ex, hn, hΦ⟩ => ?_
  subst ex
  have k := (k1.trans k2).trans k3
  have st3 := st.keep k i3
  cases d1.same ((st.keep k1 i1).kpS (k2.trans k3)) with
  | tup e ds =>
    refine ⟨_, _, rfl, same_tup hid_same e, by rw [ds.len]; exact hn, fun l nl => ?_⟩
    have f := st3.fresh nl
    exact q _ _ _ _ (k.trans (st3.new nl).1) (st3.new nl).2 (.tup (.inl (.inl (hid_of upd_same (by simp [f.1, f.2.1])))) (ds.cut.same (hid_new' nl))) hΦ
theorem do_revL (h : De K W ρ ν te fun ν1 x => ∃ xs, x = .list xs ∧ Ψ ν1 xs.reverse) : Do K W ρ ν (tRevL K te) Ψ := fun S B σ H Q st q => by
  refine h S B σ H _ st fun _ v H1 x k1 i1 d1 ⟨xs, ex, hΨ⟩ => ?_
  subst ex
  have st1 := st.keep k1 i1
  cases d1 with
  | lst e ds =>
    refine ⟨_, _, rfl, .inl (.inl (of_hid e).1), fun l nl => ?_⟩
    have f := st1.fresh nl
    exact q _ _ _ _ _ (k1.trans (st1.new nl).1) (st1.new nl).2 (k1.none f.2.2 nl) upd_same (ds.rev.same (hid_new nl)) hΨ
/-! isinstance, repr -/
def tyD : PyData → String
  | .none => "NoneType"
  | .bool _ => "bool"
  | .int _ => "int"
  | .str _ => "str"
  | .list _ => "list"
  | .tuple _ => "tuple"
  | .dict _ => "dict"
theorem dd_ty {H : Hp} : ∀ {x : PyData} {v : V}, Dd K H v x → TyX K H v (.type (tyD x))
  | .none, _, h => by cases h; exact .base .non
  | .bool b, _, h => by cases h; exact .base (.bl b)
  | .int i, _, h => by cases h; exact .base (.int i)
  | .str x, _, h => by cases h; exact .base (.str x)
  | .list ds, _, h => by
    cases h with
    | lst e d => exact .base (.lst e)
  | .tuple ds, _, h => by
    cases h with
    | tup e d =>
      rcases e with (e | ⟨o, e⟩) | e
      · exact .base (.tup e)
      · exact .fTuple e
      · obtain ⟨o, its, m, e1, e2, _⟩ := e
        exact .kTuple e1 e2
  | .dict _, _, h => by cases h
theorem tyd_same {H H' : Hp} (s : Same H H') {v : V} {x : PyData} (d : Dd K H v x) : TyX K H' v (.type (tyD x)) := dd_ty (d.same s)
theorem de_isi {n : String} (h : De K W ρ ν te fun ν1 x => ∃ b, PySem.W.kitOne K (.type (tyD x)) (.type n) = some b ∧ Φ ν1 (.bool b)) : De K W ρ ν (tCB (rIsi K) (tCons te (tCons (tC (.ty n)) tNil))) Φ := fun S B σ H Q st q => by
  refine h S B σ H _ st fun _ v H1 x k1 i1 d1 ⟨b, hb, hΦ⟩ => ?_
  exact ⟨v, _, _, _, b, rfl, .ty n, tyd_same hid_same d1, hb, q _ _ _ _ k1 i1 (.bl _) hΦ⟩
theorem de_repr (h : De K W ρ ν te fun ν1 x => ∃ n w, (∃ xs, x = .list xs ∨ x = .tuple xs) ∧ Rp x n w ∧ n ≤ 50 ∧ w ≤ 100000 ∧ Φ ν1 (.str x.shown)) : De K W ρ ν (tCB (fun xs H Q => ∃ (a : Addr) (d : PyData) (n W : Nat), xs = [.ref a] ∧ Dp K H (.ref a) d ∧ Rp d n W ∧ n ≤ 50 ∧ W ≤ 100000 ∧ Q (.str d.shown) H) (tCons te tNil)) Φ := fun S B σ H Q st q => by
  refine h S B σ H _ st fun _ v H1 x k1 i1 d1 ⟨n, w, ⟨xs, hx⟩, hr, hn, hw, hΦ⟩ => ?_
  have d2 := (d1.same hid_same).dp
  have : ∃ a, v = .ref a := by
    rcases hx with rfl | rfl
    · cases d1; exact ⟨_, rfl⟩
    · cases d1; exact ⟨_, rfl⟩
  obtain ⟨a, rfl⟩ := this
  exact ⟨a, x, n, w, rfl, d2, hr, hn, hw, q _ _ _ _ k1 i1 (.str _) hΦ⟩
end
end Bd
namespace Bd
open PySem PySem.Spec PyProof.Rows L2 HT
/-! ## numbers, truths, lists, tuples -/
section
variable (K : PySem.W.Frag) (W : Wd) (ρ : List Sl) (ν : Nat)
def DeI (t : TE) (k : Nat → Int → Prop) : Prop := De K W ρ ν t fun n x => ∃ i, x = .int i ∧ k n i
def DeB (t : TE) (k : Nat → Bool → Prop) : Prop := De K W ρ ν t fun n x => ∃ b, x = .bool b ∧ k n b
def DeL (t : TE) (k : Nat → List PyData → Prop) : Prop := De K W ρ ν t fun n x => ∃ xs, x = .list xs ∧ k n xs
def DeT (t : TE) (k : Nat → List PyData → Prop) : Prop := De K W ρ ν t fun n x => ∃ xs, x = .tuple xs ∧ k n xs
end
section
variable {K : PySem.W.Frag} {W : Wd} {ρ : List Sl} {ta tb tc te : TE} {tr : TA} {t u : TT} {ν : Nat} {Φ : Nat → PyData → Prop} {Ψ : Nat → List PyData → Prop} {Χ : Nat → Bool → Prop} {k : Nat → Int → Prop} {kb : Nat → Bool → Prop} {kl : Nat → List PyData → Prop}
theorem De.imp {t : TE} {Φ Φ' : Nat → PyData → Prop} (h : De K W ρ ν t Φ) (i : ∀ n x, Φ n x → Φ' n x) : De K W ρ ν t Φ' := fun S B σ H Q st q => h S B σ H Q st fun n v H' x k i' d hΦ => q n v H' x k i' d (i n x hΦ)
theorem Do.imp {t : TE} {Φ Φ' : Nat → List PyData → Prop} (h : Do K W ρ ν t Φ) (i : ∀ n x, Φ n x → Φ' n x) : Do K W ρ ν t Φ' := fun S B σ H Q st q => h S B σ H Q st fun n a H' vs x k i' nn e d hΦ => q n a H' vs x k i' nn e d (i n x hΦ)
theorem Dt.imp {t : TT} {Φ Φ' : Nat → Bool → Prop} (h : Dt K W ρ ν t Φ) (i : ∀ n x, Φ n x → Φ' n x) : Dt K W ρ ν t Φ' := fun S B σ H Q st q => h S B σ H Q st fun n b H' k i' hΦ => q n b H' k i' (i n b hΦ)
/-- numbers as data -/
theorem dI_e {t : TE} (h : DeI K W ρ ν t fun ν1 i => Φ ν1 (.int i)) : De K W ρ ν t Φ := De.imp h fun _ x ⟨i, e, p⟩ => by rw [e]; exact p
theorem dB_e {t : TE} (h : DeB K W ρ ν t fun ν1 i => Φ ν1 (.bool i)) : De K W ρ ν t Φ := De.imp h fun _ x ⟨i, e, p⟩ => by rw [e]; exact p
theorem dI_var {i : Nat} {c : Int} (h : ρ[i]? = some (.d (.int c))) (q : k ν c) : DeI K W ρ ν (tVar i) k := de_var h ⟨c, rfl, q⟩
theorem dB_var {i : Nat} {c : Bool} (h : ρ[i]? = some (.d (.bool c))) (q : kb ν c) : DeB K W ρ ν (tVar i) kb := de_var h ⟨c, rfl, q⟩
theorem dL_var {i : Nat} {c : List PyData} (h : ρ[i]? = some (.d (.list c))) (q : kl ν c) : DeL K W ρ ν (tVar i) kl := de_var h ⟨c, rfl, q⟩
theorem dT_var {i : Nat} {c : List PyData} (h : ρ[i]? = some (.d (.tuple c))) (q : kl ν c) : DeT K W ρ ν (tVar i) kl := de_var h ⟨c, rfl, q⟩
theorem dI_c {c : Int} (q : k ν c) : DeI K W ρ ν (tC (.int c)) k := de_c rfl ⟨c, rfl, q⟩
theorem dB_c {c : Bool} (q : kb ν c) : DeB K W ρ ν (tC (.bl c)) kb := de_c rfl ⟨c, rfl, q⟩
theorem dI_op0 {g : Int → Int → Int} (h : DeI K W ρ ν ta fun ν1 i => DeI K W ρ ν1 tb fun ν2 j => k ν2 (g i j)) : DeI K W ρ ν (tOp (rI0 fun i j => .int (g i j)) ta tb) k :=
  de_rI0 (fun _ _ => rfl) (De.imp h fun _ x ⟨i, e, p⟩ => De.imp p fun _ y ⟨j, e', p'⟩ => ⟨i, j, e, e', _, rfl, p'⟩)
theorem dI_op {C : Int → Int → Prop} {g : Int → Int → Int} (h : DeI K W ρ ν ta fun ν1 i => DeI K W ρ ν1 tb fun ν2 j => C i j ∧ k ν2 (g i j)) : DeI K W ρ ν (tOp (rI C fun i j => .int (g i j)) ta tb) k :=
  de_rI (fun _ _ => rfl) (De.imp h fun _ x ⟨i, e, p⟩ => De.imp p fun _ y ⟨j, e', c, p'⟩ => ⟨i, j, e, e', c, _, rfl, p'⟩)
theorem dI_un {g : Int → Int} (h : DeI K W ρ ν ta fun ν1 i => k ν1 (g i)) : DeI K W ρ ν (tUn (rU fun i => .int (g i)) ta) k := de_rU (fun _ => rfl) (De.imp h fun _ x ⟨i, e, p⟩ => ⟨i, e, _, rfl, p⟩)
theorem dB_op0 {g : Int → Int → Bool} (h : DeI K W ρ ν ta fun ν1 i => DeI K W ρ ν1 tb fun ν2 j => kb ν2 (g i j)) : DeB K W ρ ν (tOp (rI0 fun i j => .bl (g i j)) ta tb) kb :=
  de_rI0 (fun _ _ => rfl) (De.imp h fun _ x ⟨i, e, p⟩ => De.imp p fun _ y ⟨j, e', p'⟩ => ⟨i, j, e, e', _, rfl, p'⟩)
theorem dB_eqI (h : DeI K W ρ ν ta fun ν1 i => DeI K W ρ ν1 tb fun ν2 j => kb ν2 (decide (i = j))) : DeB K W ρ ν (tOp rEq ta tb) kb := de_eqI (De.imp h fun _ x ⟨i, e, p⟩ => De.imp p fun _ y ⟨j, e', p'⟩ => ⟨i, j, e, e', _, rfl, p'⟩)
theorem dB_neI (h : DeI K W ρ ν ta fun ν1 i => DeI K W ρ ν1 tb fun ν2 j => kb ν2 (!decide (i = j))) : DeB K W ρ ν (tOp rNe ta tb) kb := de_neI (De.imp h fun _ x ⟨i, e, p⟩ => De.imp p fun _ y ⟨j, e', p'⟩ => ⟨i, j, e, e', _, rfl, p'⟩)
theorem dB_eqD (h : De K W ρ ν ta fun ν1 x => De K W ρ ν1 tb fun ν2 y => SeqAt.shaped x = true ∧ SeqAt.shaped y = true ∧ kb ν2 (PyData.eqv x y)) : DeB K W ρ ν (tOp (rEqD K) ta tb) kb := de_eqD (De.imp h fun _ x p => De.imp p fun _ y ⟨a, b, c⟩ => ⟨a, b, _, rfl, c⟩)
theorem dB_neD (h : De K W ρ ν ta fun ν1 x => De K W ρ ν1 tb fun ν2 y => SeqAt.shaped x = true ∧ SeqAt.shaped y = true ∧ kb ν2 (!PyData.eqv x y)) : DeB K W ρ ν (tOp (rNeD K) ta tb) kb := de_neD (De.imp h fun _ x p => De.imp p fun _ y ⟨a, b, c⟩ => ⟨a, b, _, rfl, c⟩)
theorem dB_inI {neg : Bool} (h : DeI K W ρ ν ta fun ν1 i => De K W ρ ν1 tb fun ν2 y => ∃ ns : List Int, (y = .list (ns.map .int) ∨ y = .tuple (ns.map .int)) ∧ kb ν2 (if neg then !decide (i ∈ ns) else decide (i ∈ ns))) : DeB K W ρ ν (tOp (rIn K neg) ta tb) kb :=
  de_inI (De.imp h fun _ x ⟨i, e, p⟩ => De.imp p fun _ y ⟨ns, e', p'⟩ => ⟨i, ns, e, e', _, rfl, p'⟩)
theorem dB_not (h : DeB K W ρ ν ta fun ν1 b => kb ν1 (!b)) : DeB K W ρ ν (tNotV ta) kb := de_not (De.imp h fun _ x ⟨b, e, p⟩ => ⟨b, e, _, rfl, p⟩)
theorem dB_and (h : DeB K W ρ ν ta fun ν1 b => (b = true → DeB K W ρ ν1 tb kb) ∧ (b = false → kb ν1 false)) : DeB K W ρ ν (tAndV ta tb) kb := de_and (De.imp h fun _ x ⟨b, e, p, q⟩ => ⟨b, e, p, fun z => ⟨_, rfl, q z⟩⟩)
theorem dB_or (h : DeB K W ρ ν ta fun ν1 b => (b = true → kb ν1 true) ∧ (b = false → DeB K W ρ ν1 tb kb)) : DeB K W ρ ν (tOrV ta tb) kb := de_or (De.imp h fun _ x ⟨b, e, p, q⟩ => ⟨b, e, fun z => ⟨_, rfl, p z⟩, q⟩)
theorem dB_chain {g g' : Int → Int → Bool} (h : DeI K W ρ ν ta fun ν1 i => DeI K W ρ ν1 tb fun ν2 j => (g i j = true → DeI K W ρ ν2 tc fun ν3 l => kb ν3 (g' j l)) ∧ (g i j = false → kb ν2 false)) :
    DeB K W ρ ν (tChain (rI0 fun i j => .bl (g i j)) (rI0 fun i j => .bl (g' i j)) ta tb tc) kb :=
  de_chain (De.imp h fun _ x ⟨i, e, p⟩ => De.imp p fun _ y ⟨j, e', p1, p2⟩ => ⟨i, j, e, e', fun z => De.imp (p1 z) fun _ w ⟨l, e'', p3⟩ => ⟨l, e'', _, rfl, p3⟩, fun z => ⟨_, rfl, p2 z⟩⟩)
theorem dI_if (h : Dt K W ρ ν t fun ν1 b => (b = true → DeI K W ρ ν1 ta k) ∧ (b = false → DeI K W ρ ν1 tb k)) : DeI K W ρ ν (tIf t ta tb) k := de_if h
theorem dB_if (h : Dt K W ρ ν t fun ν1 b => (b = true → DeB K W ρ ν1 ta kb) ∧ (b = false → DeB K W ρ ν1 tb kb)) : DeB K W ρ ν (tIf t ta tb) kb := de_if h
/-! items -/
theorem dX_ixL (h : DeL K W ρ ν ta fun ν1 xs => DeI K W ρ ν1 tb fun ν2 i => ∃ d, atD xs i = some d ∧ Φ ν2 d) : De K W ρ ν (tOp (rIxL K) ta tb) Φ := de_ixL (De.imp h fun _ x ⟨xs, e, p⟩ => De.imp p fun _ y ⟨i, e', d, ed, q⟩ => ⟨xs, i, d, e, e', ed, q⟩)
theorem dX_ixT (h : DeT K W ρ ν ta fun ν1 xs => DeI K W ρ ν1 tb fun ν2 i => ∃ d, atD xs i = some d ∧ Φ ν2 d) : De K W ρ ν (tOp (rIxT K) ta tb) Φ := de_ixT (De.imp h fun _ x ⟨xs, e, p⟩ => De.imp p fun _ y ⟨i, e', d, ed, q⟩ => ⟨xs, i, d, e, e', ed, q⟩)
theorem dX_ixO {j : Nat} {a : Addr} {xs : List PyData} (ho : ρ[j]? = some (.own a xs)) (h : DeI K W ρ ν tb fun ν1 i => ∃ d, atD xs i = some d ∧ Φ ν1 d) : De K W ρ ν (tOp (rIxL K) (tVar j) tb) Φ := de_ixO ho (De.imp h fun _ y ⟨i, e', d, ed, q⟩ => ⟨i, d, e', ed, q⟩)
theorem dI_ixL (h : DeL K W ρ ν ta fun ν1 xs => DeI K W ρ ν1 tb fun ν2 i => ∃ c, atD xs i = some (.int c) ∧ k ν2 c) : DeI K W ρ ν (tOp (rIxL K) ta tb) k := dX_ixL (De.imp h fun _ x ⟨xs, e, p⟩ => ⟨xs, e, De.imp p fun _ y ⟨i, e', c, ed, q⟩ => ⟨i, e', _, ed, c, rfl, q⟩⟩)
theorem dI_ixT (h : DeT K W ρ ν ta fun ν1 xs => DeI K W ρ ν1 tb fun ν2 i => ∃ c, atD xs i = some (.int c) ∧ k ν2 c) : DeI K W ρ ν (tOp (rIxT K) ta tb) k := dX_ixT (De.imp h fun _ x ⟨xs, e, p⟩ => ⟨xs, e, De.imp p fun _ y ⟨i, e', c, ed, q⟩ => ⟨i, e', _, ed, c, rfl, q⟩⟩)
theorem dI_ixO {j : Nat} {a : Addr} {xs : List PyData} (ho : ρ[j]? = some (.own a xs)) (h : DeI K W ρ ν tb fun ν1 i => ∃ c, atD xs i = some (.int c) ∧ k ν1 c) : DeI K W ρ ν (tOp (rIxL K) (tVar j) tb) k := dX_ixO ho (De.imp h fun _ y ⟨i, e', c, ed, q⟩ => ⟨i, e', _, ed, c, rfl, q⟩)
theorem dL_ixL (h : DeL K W ρ ν ta fun ν1 xs => DeI K W ρ ν1 tb fun ν2 i => ∃ c, atD xs i = some (.list c) ∧ kl ν2 c) : DeL K W ρ ν (tOp (rIxL K) ta tb) kl := dX_ixL (De.imp h fun _ x ⟨xs, e, p⟩ => ⟨xs, e, De.imp p fun _ y ⟨i, e', c, ed, q⟩ => ⟨i, e', _, ed, c, rfl, q⟩⟩)
theorem dL_ixT (h : DeT K W ρ ν ta fun ν1 xs => DeI K W ρ ν1 tb fun ν2 i => ∃ c, atD xs i = some (.list c) ∧ kl ν2 c) : DeL K W ρ ν (tOp (rIxT K) ta tb) kl := dX_ixT (De.imp h fun _ x ⟨xs, e, p⟩ => ⟨xs, e, De.imp p fun _ y ⟨i, e', c, ed, q⟩ => ⟨i, e', _, ed, c, rfl, q⟩⟩)
theorem dL_ixO {j : Nat} {a : Addr} {xs : List PyData} (ho : ρ[j]? = some (.own a xs)) (h : DeI K W ρ ν tb fun ν1 i => ∃ c, atD xs i = some (.list c) ∧ kl ν1 c) : DeL K W ρ ν (tOp (rIxL K) (tVar j) tb) kl := dX_ixO ho (De.imp h fun _ y ⟨i, e', c, ed, q⟩ => ⟨i, e', _, ed, c, rfl, q⟩)
theorem dT_ixL (h : DeL K W ρ ν ta fun ν1 xs => DeI K W ρ ν1 tb fun ν2 i => ∃ c, atD xs i = some (.tuple c) ∧ kl ν2 c) : DeT K W ρ ν (tOp (rIxL K) ta tb) kl := dX_ixL (De.imp h fun _ x ⟨xs, e, p⟩ => ⟨xs, e, De.imp p fun _ y ⟨i, e', c, ed, q⟩ => ⟨i, e', _, ed, c, rfl, q⟩⟩)
theorem dT_ixT (h : DeT K W ρ ν ta fun ν1 xs => DeI K W ρ ν1 tb fun ν2 i => ∃ c, atD xs i = some (.tuple c) ∧ kl ν2 c) : DeT K W ρ ν (tOp (rIxT K) ta tb) kl := dX_ixT (De.imp h fun _ x ⟨xs, e, p⟩ => ⟨xs, e, De.imp p fun _ y ⟨i, e', c, ed, q⟩ => ⟨i, e', _, ed, c, rfl, q⟩⟩)
theorem dT_tup (h : Da K W ρ ν tr fun ν1 xs => xs.length ≤ sizeLine ∧ kl ν1 xs) : DeT K W ρ ν (tTup tr) kl := de_tup (fun S B σ H Q st q => h S B σ H Q st fun n vs H' xs k' i' d ⟨a, b⟩ => q n vs H' xs k' i' d ⟨a, xs, rfl, b⟩)
theorem dL_o {t : TE} (h : Do K W ρ ν t kl) : DeL K W ρ ν t kl := Do.de (h.imp fun _ xs p => ⟨xs, rfl, p⟩)
theorem do_catL (h : DeL K W ρ ν ta fun ν1 xs => DeL K W ρ ν1 tb fun ν2 ys => xs.length + ys.length ≤ sizeLine ∧ Ψ ν2 (xs ++ ys)) : Do K W ρ ν (tOp rCat ta tb) Ψ := do_cat (De.imp h fun _ x ⟨xs, e, p⟩ => De.imp p fun _ y ⟨ys, e', a, b⟩ => ⟨xs, ys, e, e', a, b⟩)
theorem dI_lenL (h : DeL K W ρ ν te fun ν1 xs => k ν1 (xs.length : Int)) : DeI K W ρ ν (tCB (fun as H Q => ∃ p ys, as = [.ref p] ∧ (SqL K H p ys ∨ SqT K H p ys) ∧ Q (.int ys.length) H) (tCons te tNil)) k := de_len (De.imp h fun _ x ⟨xs, e, p⟩ => ⟨xs, .inl e, _, rfl, p⟩)
theorem dI_lenT (h : DeT K W ρ ν te fun ν1 xs => k ν1 (xs.length : Int)) : DeI K W ρ ν (tCB (fun as H Q => ∃ p ys, as = [.ref p] ∧ (SqL K H p ys ∨ SqT K H p ys) ∧ Q (.int ys.length) H) (tCons te tNil)) k := de_len (De.imp h fun _ x ⟨xs, e, p⟩ => ⟨xs, .inr e, _, rfl, p⟩)
theorem dI_lenO {i : Nat} {a : Addr} {xs : List PyData} (ho : ρ[i]? = some (.own a xs)) (h : k ν (xs.length : Int)) : DeI K W ρ ν (tCB (fun as H Q => ∃ p ys, as = [.ref p] ∧ (SqL K H p ys ∨ SqT K H p ys) ∧ Q (.int ys.length) H) (tCons (tVar i) tNil)) k :=
  de_peek i ho (de_len (de_var (List.getElem?_set_self (lt_of_at ho)) ⟨xs, .inl rfl, rfl, _, rfl, h⟩))
theorem dI_abs (h : DeI K W ρ ν te fun ν1 i => k ν1 (if i < 0 then -i else i)) : DeI K W ρ ν (tCB (fun xs H Q => ∃ i, xs = [.int i] ∧ Q (.int (if i < 0 then -i else i)) H) (tCons te tNil)) k := de_abs (De.imp h fun _ x ⟨i, e, p⟩ => ⟨i, e, _, rfl, p⟩)
theorem dI_two {g : Int → Int → Int} (h : DeI K W ρ ν ta fun ν1 i => DeI K W ρ ν1 tb fun ν2 j => k ν2 (g i j)) : DeI K W ρ ν (tCB (fun xs H Q => ∃ i j, xs = [.int i, .int j] ∧ Q (.int (g i j)) H) (tCons ta (tCons tb tNil))) k :=
  de_two (De.imp h fun _ x ⟨i, e, p⟩ => De.imp p fun _ y ⟨j, e', p'⟩ => ⟨i, j, e, e', _, rfl, p'⟩)
theorem dI_intB (h : DeB K W ρ ν te fun ν1 b => k ν1 (if b then 1 else 0)) : DeI K W ρ ν (tCB (fun xs H Q => (∃ i, xs = [.int i] ∧ Q (.int i) H) ∨ ∃ k, xs = [.bl k] ∧ Q (.int (if k then 1 else 0)) H) (tCons te tNil)) k := de_intB (De.imp h fun _ x ⟨b, e, p⟩ => ⟨b, e, _, rfl, p⟩)
theorem dI_maxL (h : DeL K W ρ ν te fun ν1 xs => ∃ ns : List Int, xs = ns.map .int ∧ 0 < ns.length ∧ ∀ m, m ∈ ns → (∀ y, y ∈ ns → y ≤ m) → k ν1 m) : DeI K W ρ ν (tCB (rMax K) (tCons te tNil)) k := de_maxL (De.imp h fun _ x ⟨xs, e, ns, e', p, q⟩ => ⟨ns, by rw [e, e'], p, fun m h1 h2 => ⟨m, rfl, q m h1 h2⟩⟩)
theorem dI_sumL (h : DeL K W ρ ν te fun ν1 xs => ∃ ns : List Int, xs = ns.map .int ∧ k ν1 ns.sum) : DeI K W ρ ν (tCB (rSum K) (tCons te tNil)) k := de_sum (De.imp h fun _ x ⟨xs, e, ns, e', p⟩ => ⟨ns, by rw [e, e'], _, rfl, p⟩)
theorem do_slLL {tl th : TO} (h : DeL K W ρ ν te fun ν1 xs => Dp0 K W ρ ν1 tl fun ν2 lo => Dp0 K W ρ ν2 th fun ν3 hi => Ψ ν3 (cutD xs lo hi)) : Do K W ρ ν (tSl (rSlL K) te tl th) Ψ :=
  do_slL (De.imp h fun _ x ⟨xs, e, p⟩ => fun S B σ H Q st q => p S B σ H Q st fun n o H' k' i' p' => q n o H' k' i' fun S B σ H Q st q => p' S B σ H Q st fun n o H' k' i' p'' => q n o H' k' i' ⟨xs, e, p''⟩)
theorem dp_partI {Θ : Nat → Option Int → Prop} (h : DeI K W ρ ν te fun ν1 i => Θ ν1 (some i)) : Dp0 K W ρ ν (tPart te) Θ := dp_part h
theorem dt_tB (h : DeB K W ρ ν ta Χ) : Dt K W ρ ν (tB ta) Χ := dt_b h
theorem dt_tTest (h : DeB K W ρ ν ta Χ) : Dt K W ρ ν (tTest ta) Χ := dt_b h
theorem di_listL (h : DeL K W ρ ν ta Ψ) : Di K W ρ ν (iList K ta) Ψ := di_list h
theorem di_rngI (h : DeI K W ρ ν ta fun ν1 j => -(2 ^ 62) ≤ j ∧ j < 2 ^ 62 ∧ Ψ ν1 (rngD 0 j.toNat)) : Di K W ρ ν (iRng1 (tCons ta tNil)) Ψ := di_rng1 (da_cons (De.imp h fun _ x ⟨j, e, a, b, c⟩ => da_nil ⟨j, by rw [e], a, b, c⟩))
theorem di_zipL (h : DeL K W ρ ν ta fun ν1 xs => DeL K W ρ ν1 tb fun ν2 ys => Ψ ν2 (zipD xs ys)) : Di K W ρ ν (iZip K (tCons ta (tCons tb tNil))) Ψ := di_zip (da_cons (De.imp h fun _ x ⟨xs, e, p⟩ => da_cons (De.imp p fun _ y ⟨ys, e', p'⟩ => da_nil ⟨xs, ys, by rw [e, e'], p'⟩)))
theorem di_enumL (h : DeL K W ρ ν ta fun ν1 xs => Ψ ν1 (enumD xs)) : Di K W ρ ν (iEnum K (tCons ta tNil)) Ψ := di_enum (da_cons (De.imp h fun _ x ⟨xs, e, p⟩ => da_nil ⟨xs, by rw [e], p⟩))
theorem ds_subI {i : Nat} {a : Addr} {xs : List PyData} {P : Po} (ho : ρ[i]? = some (.own a xs)) (h : De K W ρ ν te fun ν1 x => DeI K W ρ ν1 tb fun ν2 n => ∃ j, ixN xs.length n = some j ∧ P.nx ν2 (ρ.set i (.own a (xs.set j x)))) : Ds K W ρ ν (tAsg te (gSub (tVar i) tb rSetL)) P :=
  ds_sub ho (De.imp h fun _ x p => De.imp p fun _ y ⟨n, e, j, ej, q⟩ => ⟨n, j, e, ej, q⟩)
theorem ds_augSI {i : Nat} {a : Addr} {xs : List PyData} {f : Int → Int → Int} {P : Po} (ho : ρ[i]? = some (.own a xs)) (h : DeI K W ρ ν tb fun ν1 n => ∃ (j : Nat) (c : Int), n = (j : Int) ∧ xs[j]? = some (.int c) ∧ DeI K W ρ ν1 te fun ν2 m => P.nx ν2 (ρ.set i (.own a (xs.set j (.int (f c m)))))) : Ds K W ρ ν (tAugS (tVar i) tb te (rGetL K) (ipI f) rSetL) P :=
  ds_augS ho (De.imp h fun _ y ⟨n, e, j, c, en, ec, q⟩ => ⟨n, j, c, e, by omega, en, ec, q⟩)
theorem ds_augI {i : Nat} {f : Int → Int → Int} {c : Int} {P : Po} (hx : ρ[i]? = some (.d (.int c))) (h : DeI K W ρ ν te fun ν1 m => P.nx ν1 (ρ.set i (.d (.int (f c m))))) : Ds K W ρ ν (tAug i te (ipI f)) P := ds_aug hx h
theorem dI_call {ι : Type} {js : List V} {arg : ι → List PyData} {pre : ι → Nat → Prop} {post : ι → Nat → Nat → Sl → Prop} {sp : Sp} {n : Nat} {j : V} (hs : ∀ vs H Q, spD K W [j] arg pre post vs H Q E0 → sp vs H Q E0) (hj : ρ[n]? = some (.at j)) (h : Da K W ρ ν tr fun ν1 xs => ∃ i, xs = arg i ∧ pre i ν1 ∧ ∀ ν2 s, post i ν1 ν2 s → ∃ y, s = .d (.int y) ∧ k ν2 y) : DeI K W ρ ν (tCall sp [] E0 (tCons (tVar n) tr)) k :=
  de_call hs hj fun S B σ H Q st q => h S B σ H Q st fun n vs H' xs k' i' d ⟨i, e, p, f⟩ => q n vs H' xs k' i' d ⟨i, e, p, fun n2 s hs => by obtain ⟨y, e2, p2⟩ := f n2 s hs; exact ⟨_, e2, y, rfl, p2⟩⟩
theorem dI_call0 {ι : Type} {arg : ι → List PyData} {pre : ι → Nat → Prop} {post : ι → Nat → Nat → Sl → Prop} (h : Da K W ρ ν tr fun ν1 xs => ∃ i, xs = arg i ∧ pre i 0 ∧ ∀ ν2 s, post i 0 ν2 s → ∃ y, s = .d (.int y) ∧ k ν1 y) : DeI K W ρ ν (tCall (spD K Wn [] arg pre post) [] E0 tr) k :=
  de_call0 fun S B σ H Q st q => h S B σ H Q st fun n vs H' xs k' i' d ⟨i, e, p, f⟩ => q n vs H' xs k' i' d ⟨i, e, p, fun n2 s hs => by obtain ⟨y, e2, p2⟩ := f n2 s hs; exact ⟨_, e2, y, rfl, p2⟩⟩
theorem dB_call0 {ι : Type} {arg : ι → List PyData} {pre : ι → Nat → Prop} {post : ι → Nat → Nat → Sl → Prop} (h : Da K W ρ ν tr fun ν1 xs => ∃ i, xs = arg i ∧ pre i 0 ∧ ∀ ν2 s, post i 0 ν2 s → ∃ y, s = .d (.bool y) ∧ kb ν1 y) : DeB K W ρ ν (tCall (spD K Wn [] arg pre post) [] E0 tr) kb :=
  de_call0 fun S B σ H Q st q => h S B σ H Q st fun n vs H' xs k' i' d ⟨i, e, p, f⟩ => q n vs H' xs k' i' d ⟨i, e, p, fun n2 s hs => by obtain ⟨y, e2, p2⟩ := f n2 s hs; exact ⟨_, e2, y, rfl, p2⟩⟩
theorem dI_kw {ι : Type} {arg : ι → List PyData} {pre : ι → Nat → Prop} {post : ι → Nat → Nat → Sl → Prop} {gV : List V → List V} (gD : List PyData → List PyData) (h : Da K W ρ ν tr fun ν1 xs => (∀ {H : Hp} {vs : List V}, Dds K H vs xs → Dds K H (gV vs) (gD xs)) ∧ ∃ i, gD xs = arg i ∧ pre i 0 ∧ ∀ ν2 s, post i 0 ν2 s → ∃ y, s = .d (.int y) ∧ k ν1 y) : DeI K W ρ ν (tKw (spD K Wn [] arg pre post) gV tr) k :=
  de_kw gD fun S B σ H Q st q => h S B σ H Q st fun n vs H' xs k' i' d ⟨hg, i, e, p, f⟩ => q n vs H' xs k' i' d ⟨hg, i, e, p, fun n2 s hs => by obtain ⟨y, e2, p2⟩ := f n2 s hs; exact ⟨_, e2, y, rfl, p2⟩⟩
end
/-! ## a def's length -/
theorem spD_len {ι : Type} {K : PySem.W.Frag} {W : Wd} {js : List V} {arg : ι → List PyData} {pre : ι → Nat → Prop} {post : ι → Nat → Nat → Sl → Prop} {n : Nat} {vs : List V} {H : Hp} {Q : VK} {E : XK} (h : spD K W js arg pre post vs H Q E) (hl : ∀ i, js.length + (arg i).length = n) : vs.length = n := by
  obtain ⟨i, ν, S, us, rfl, _, _, _, _, d, _⟩ := h
  rw [List.length_append, d.len]
  exact hl i
theorem fn_ds {ι : Type} {K : PySem.W.Frag} {W : Wd} {js : List V} {arg : ι → List PyData} {pre : ι → Nat → Prop} {post : ι → Nat → Nat → Sl → Prop} {N : List Str} {vs : List V} {H : Hp} {Q : VK} {E : XK} {t : TS} (ρ0 : ι → List Sl) (h : spD K W js arg pre post vs H Q E)
    (hρ : ∀ i, js.map .at ++ ((arg i).map .d ++ List.replicate (N.length - (js.length + (arg i).length)) .un) = ρ0 i)
    (hd : ∀ i ν, pre i ν → Ds K W (ρ0 i) ν t ⟨fun ν' _ => post i ν ν' (.d .none), fun ν' s => post i ν ν' s, fun _ _ => False, fun _ _ => False⟩) :
    t { nx := fun _ H' => Q .non H', rt := Q } (L2.start N vs) H := fn_run h fun i ν hp => by rw [hρ i]; exact hd i ν hp
/-! ## loops and comprehensions over things that are told -/
section
variable {K : PySem.W.Frag} {W : Wd} {ρ : List Sl} {ν : Nat} {Ψ : Nat → List PyData → Prop}
def LcK (K : PySem.W.Frag) (W : Wd) (ρ : List Sl) (ν : Nat) (vs : List Nat) (g : TG) (tt : TT) (te : TE) (Ψ : Nat → List PyData → Prop) (xs : List PyData) : Prop := ∃ Iv : Nat → Nat → List PyData → Prop, Iv 0 ν [] ∧ (∀ k x ν2 ys, xs[k]? = some x → Iv k ν2 ys → Dg K W (wipeR ρ vs) ν2 (· ∈ vs) g x fun ρ2 => Dt K W ρ2 ν2 tt fun ν3 b =>
      (b = true → De K W ρ2 ν3 te fun ν4 y => ys.length < sizeLine ∧ Iv (k + 1) ν4 (ys ++ [y])) ∧ (b = false → Iv (k + 1) ν3 ys)) ∧ ∀ ν2 ys, Iv xs.length ν2 ys → Ψ ν2 ys
theorem do_lck {wi : TI} {g : TG} {tt : TT} {te : TE} {vs : List Nat} (hv : (vs.all fun v => nOwn ρ v) = true) (h : Di K W ρ ν wi fun ν1 xs => LcK K W ρ ν1 vs g tt te Ψ xs) : Do K W ρ ν (tLc wi g tt te vs) Ψ := do_lc (fun v hm => List.all_eq_true.mp hv v hm) h
def ForK (K : PySem.W.Frag) (W : Wd) (ρ : List Sl) (ν : Nat) (g : TG) (tb : TS) (P : Po) (xs : List PyData) : Prop := ∃ Iv : Nat → Nat → List Sl → Prop, Iv 0 ν ρ ∧ (∀ k x ν2 ρ', xs[k]? = some x → Iv k ν2 ρ' → Dg K W ρ' ν2 (fun _ => True) g x fun ρ2 => Ds K W ρ2 ν2 tb ⟨Iv (k + 1), P.rt, P.nx, Iv (k + 1)⟩) ∧ ∀ ν2 ρ', Iv xs.length ν2 ρ' → P.nx ν2 ρ'
theorem ds_fork {wi : TI} {g : TG} {tb : TS} {P : Po} (h : Di K W ρ ν wi fun ν1 xs => ForK K W ρ ν1 g tb P xs) : Ds K W ρ ν (tFor wi g tb) P := ds_for h
theorem Dg.imp {P : Nat → Prop} {g : TG} {x : PyData} {Θ Θ' : List Sl → Prop} (h : Dg K W ρ ν P g x Θ) (i : ∀ r, Θ r → Θ' r) : Dg K W ρ ν P g x Θ' := fun S B σ H v Q st d q => h S B σ H v Q st d fun ρ' σ' st' eo e' hΘ => q ρ' σ' st' eo e' (i ρ' hΘ)
theorem dg_nm {i : Nat} {x : PyData} {Θ : List Sl → Prop} (n : nOwn ρ i = true) (h : Θ (ρ.set i (.d x))) : Dg K W ρ ν (fun _ => True) (gName i) x Θ := dg_name n trivial h
/-- one element a thing, some left out, nothing drawn -/
theorem lcF {α : Type} {g : TG} {tt : TT} {te : TE} {vs : List Nat} {xs : List PyData} (enc : α → PyData) (L : List α) (p : α → Bool) (f : α → PyData) (hl : L.length < sizeLine) (hx : xs = L.map enc)
    (hb : ∀ a ∈ L, Dg K W (wipeR ρ vs) ν (· ∈ vs) g (enc a) fun ρ2 => Dt K W ρ2 ν tt fun ν1 b => ν1 = ν ∧ b = p a ∧ (p a = true → De K W ρ2 ν te fun ν2 y => ν2 = ν ∧ y = f a))
    (h : Ψ ν ((L.filter p).map f)) : LcK K W ρ ν vs g tt te Ψ xs := by
  subst hx
  refine ⟨fun k ν' ys => ν' = ν ∧ ys = ((L.take k).filter p).map f, ⟨rfl, by simp⟩, fun k x ν2 ys hx hI => ?_, fun ν2 ys hI => ?_⟩
  · obtain ⟨e0, hI⟩ := hI
    subst e0
    rw [List.getElem?_map] at hx
    cases c : L[k]? with
    | none => rw [c] at hx; cases hx
    | some a =>
      rw [c] at hx
      cases hx
      have hm := List.mem_of_getElem? c
      have ys_len : ys.length < sizeLine := by
        rw [hI, List.length_map]
        have h1 := List.length_filter_le p (L.take k)
        have h2 : (L.take k).length ≤ L.length := by rw [List.length_take]; omega
        omega
      refine (hb a hm).imp fun ρ2 hD => Dt.imp hD fun ν1 b ⟨e1, eb, he⟩ => ?_
      subst e1
      refine ⟨fun hb' => ?_, fun hb' => ?_⟩
      · refine De.imp (he (by rw [← eb]; exact hb')) fun n y ⟨en, ey⟩ => ⟨ys_len, en, ?_⟩
        show ys ++ [y] = ((L.take (k + 1)).filter p).map f
        rw [take_snoc c, List.filter_append, List.map_append, ← hI, ey, List.filter_cons_of_pos (by rw [← eb]; exact hb')]
        rfl
      · refine ⟨rfl, ?_⟩
        show ys = ((L.take (k + 1)).filter p).map f
        rw [take_snoc c, List.filter_append, List.map_append, ← hI, List.filter_cons_of_neg (by rw [← eb, hb']; simp)]
        simp
  · obtain ⟨e0, hI⟩ := hI
    rw [List.length_map, List.take_of_length_le (Nat.le_refl _)] at hI
    rw [e0, hI]; exact h
theorem lcM {α : Type} {g : TG} {te : TE} {vs : List Nat} {xs : List PyData} (enc : α → PyData) (L : List α) (f : α → PyData) (hl : L.length < sizeLine) (hx : xs = L.map enc)
    (hb : ∀ a ∈ L, Dg K W (wipeR ρ vs) ν (· ∈ vs) g (enc a) fun ρ2 => De K W ρ2 ν te fun ν2 y => ν2 = ν ∧ y = f a)
    (h : Ψ ν (L.map f)) : LcK K W ρ ν vs g tYes te Ψ xs := by
  refine lcF enc L (fun _ => true) f hl hx (fun a ha => (hb a ha).imp fun ρ2 hD => dt_yes ⟨rfl, rfl, fun _ => hD⟩) ?_
  rw [List.filter_eq_self.mpr (fun _ _ => rfl)]; exact h
/-- .. with draws, at most c of them each -/
theorem lcP {α : Type} {g : TG} {te : TE} {vs : List Nat} {xs : List PyData} (enc : α → PyData) (L : List α) (Pr : α → PyData → Prop) (c : Nat) (hl : L.length < sizeLine) (hx : xs = L.map enc)
    (hb : ∀ a ∈ L, ∀ ν1, ν1 ≤ ν + c * L.length → Dg K W (wipeR ρ vs) ν1 (· ∈ vs) g (enc a) fun ρ2 => De K W ρ2 ν1 te fun ν2 y => ν2 ≤ ν1 + c ∧ Pr a y)
    (h : ∀ ν2 ys, ν2 ≤ ν + c * L.length → ys.length = L.length → (∀ (k : Nat) (a : α) (y : PyData), L[k]? = some a → ys[k]? = some y → Pr a y) → Ψ ν2 ys) : LcK K W ρ ν vs g tYes te Ψ xs := by
  subst hx
  refine ⟨fun k ν' ys => ν' ≤ ν + c * k ∧ ys.length = k ∧ ∀ (m : Nat) (a : α) (y : PyData), L[m]? = some a → ys[m]? = some y → Pr a y, ⟨Nat.le_refl _, rfl, fun m a y _ e => by simp at e⟩, fun k x ν2 ys hx hI => ?_, fun ν2 ys hI => ?_⟩
  · obtain ⟨n0, hI⟩ := hI
    rw [List.getElem?_map] at hx
    cases cc : L[k]? with
    | none => rw [cc] at hx; cases hx
    | some a =>
      rw [cc] at hx
      cases hx
      have hm := List.mem_of_getElem? cc
      have hk := lt_of_at cc
      have hle : c * k ≤ c * L.length := Nat.mul_le_mul_left _ (Nat.le_of_lt hk)
      refine (hb a hm ν2 (by omega)).imp fun ρ2 hD => dt_yes ⟨fun _ => De.imp hD fun n y ⟨pn, py⟩ => ⟨by omega, by rw [Nat.mul_add, Nat.mul_one]; omega, by simp [hI.1], fun m a' y' e1 e2 => ?_⟩, fun z => nomatch z⟩
      by_cases em : m < k
      · rw [List.getElem?_append_left (by omega)] at e2
        exact hI.2 m a' y' e1 e2
      · have hlt := lt_of_at e2
        rw [List.length_append, List.length_singleton, hI.1] at hlt
        have : m = k := by omega
        subst this
        rw [List.getElem?_append_right (by omega), hI.1, Nat.sub_self] at e2
        rw [cc] at e1
        cases e1
        cases e2
        exact py
  · rw [List.length_map] at hI
    exact h ν2 ys hI.1 hI.2.1 hI.2.2
/-- a loop over things, nothing said of numbers of draws but a bound -/
theorem forI {α : Type} {g : TG} {tb : TS} {P : Po} {xs : List PyData} (enc : α → PyData) (L : List α) (hx : xs = L.map enc) (c : Nat) (Iv : Nat → List Sl → Prop) (h0 : Iv 0 ρ)
    (hs : ∀ (k : Nat) (a : α) ν1 ρ', L[k]? = some a → ν1 ≤ ν + c * L.length → Iv k ρ' → Dg K W ρ' ν1 (fun _ => True) g (enc a) fun ρ2 => Ds K W ρ2 ν1 tb ⟨fun ν2 r => ν2 ≤ ν1 + c ∧ Iv (k + 1) r, P.rt, P.nx, fun ν2 r => ν2 ≤ ν1 + c ∧ Iv (k + 1) r⟩)
    (hd : ∀ ν2 ρ', ν2 ≤ ν + c * L.length → Iv L.length ρ' → P.nx ν2 ρ') : ForK K W ρ ν g tb P xs := by
  subst hx
  refine ⟨fun k ν' r => ν' ≤ ν + c * k ∧ Iv k r, ⟨Nat.le_refl _, h0⟩, fun k x ν2 ρ' hx hI => ?_, fun ν2 ρ' hI => ?_⟩
  · rw [List.getElem?_map] at hx
    cases cc : L[k]? with
    | none => rw [cc] at hx; cases hx
    | some a =>
      rw [cc] at hx
      cases hx
      have hk := lt_of_at cc
      have hle : c * k ≤ c * L.length := Nat.mul_le_mul_left _ (Nat.le_of_lt hk)
      refine (hs k a ν2 ρ' cc (by omega) hI.2).imp fun ρ2 hD => fun S B σ H D st e => hD S B σ H D st ⟨fun n r σ' H' st' ⟨h1, h2⟩ => e.nx n r σ' H' st' ⟨by rw [Nat.mul_add, Nat.mul_one]; omega, h2⟩, e.rt, e.bk, fun n r σ' H' st' ⟨h1, h2⟩ => e.ct n r σ' H' st' ⟨by rw [Nat.mul_add, Nat.mul_one]; omega, h2⟩⟩
  · rw [List.length_map] at hI
    exact hd ν2 ρ' hI.1 hI.2
theorem rngD_map (n : Nat) : rngD 0 n = (List.range n).map fun (i : Nat) => PyData.int (i : Int) := by
  unfold rngD
  refine List.map_congr_left fun i _ => ?_
  rw [Int.zero_add]
end
end Bd
namespace Bd
open PySem PySem.Spec PyProof.Rows L2 HT
/-! ### tapes, as data -/
abbrev Bead := Nat × Int
abbrev Lk := Int × Int × Int × Int
def beadD (b : Bead) : PyData := .tuple [.int b.1, .int b.2]
def lookD (l : Lk) : PyData := .tuple [.int l.1, .int l.2.1, .int l.2.2.1, .int l.2.2.2]
def intsD (ns : List Int) : PyData := .list (ns.map .int)
def tapeD (bs : List Bead) (ls : List Lk) : PyData := .tuple [.list (bs.map beadD), .list (ls.map lookD)]
theorem cutD_take (xs : List PyData) (m : Nat) : cutD xs none (some (m : Int)) = xs.take m := by
  unfold cutD HT.sIx
  have : (fun (a b : Nat) => (xs.drop a).take b) 0 (min m xs.length) = xs.take m := by
    simp only [List.drop_zero]
    by_cases h : m ≤ xs.length
    · rw [Nat.min_eq_left h]
    · rw [Nat.min_eq_right (by omega), List.take_of_length_le (Nat.le_refl _), List.take_of_length_le (by omega)]
  rw [← this]
  congr 1
  all_goals first | rfl | (simp only []; omega) | skip
theorem atD_ints {ns : List Int} {i : Nat} (h : i < ns.length) : atD (ns.map .int) (i : Int) = some (.int (ns.getD i 0)) := by
  refine atD_nat ?_
  rw [List.getElem?_map, List.getElem?_eq_getElem h, List.getD_eq_getElem?_getD, List.getElem?_eq_getElem h]
  rfl
theorem atD_map {α : Type} {f : α → PyData} {L : List α} {i : Nat} {a : α} (h : L[i]? = some a) : atD (L.map f) (i : Int) = some (f a) := by
  refine atD_nat ?_
  rw [List.getElem?_map, h]; rfl
/-- whether a bead is at a door of the room -/
def atDoor (ds : List (Nat × Nat)) (r : Nat) (b : Bead) : Bool := match ds[b.1]? with
  | some d => decide (r = d.1 ∨ r = d.2)
  | none => false
def hadMet (ds : List (Nat × Nat)) (B : List Int) (bs : List Bead) (r m : Nat) : Int := B.getD r 0 + (((bs.take m).filter (atDoor ds r)).length : Int)
def lookAt (r m : Nat) (l : Lk) : Bool := decide (l.1 = (m : Int)) && decide (l.2.1 = (r : Int))
structure Tp where
  rooms : Nat
  ds : List (Nat × Nat)
  B : List Int
  bs : List Bead
  ls : List Lk
  r : Nat
  m : Nat
structure Tp.Ok (t : Tp) : Prop where
  doors : Doors t.rooms t.ds
  lB : t.B.length = t.rooms
  beads : ∀ b ∈ t.bs, b.1 < t.ds.length
  hr : t.r < t.rooms
  lb : t.bs.length ≤ 10000
  ll : t.ls.length ≤ 10000
def Tp.arg (t : Tp) : List PyData := [houseD t.rooms t.ds, intsD t.B, tapeD t.bs t.ls, .int t.r, .int t.m]
end Bd
namespace Bd
open PySem PySem.Spec PyProof.Rows L2 HT
theorem door_in {ds : List (Nat × Nat)} {b : Bead} {d : Nat × Nat} (h : ds[b.1]? = some d) (r : Nat) : decide ((r : Int) ∈ [(d.1 : Int), (d.2 : Int)]) = atDoor ds r b := by
  unfold atDoor
  rw [h]
  simp only [List.mem_cons, List.not_mem_nil, or_false, Int.natCast_inj]
theorem small_take {α : Type} {xs : List α} {m : Nat} (h : xs.length ≤ 10000) : (xs.take m).length < sizeLine := by
  have h2 : (xs.take m).length ≤ xs.length := by rw [List.length_take]; omega
  unfold sizeLine; omega
theorem small_of {α : Type} {xs : List α} {n : Nat} (h : xs.length ≤ n) (hn : n ≤ 1000000) : xs.length < sizeLine := by
  unfold sizeLine; omega
def lookPair (l : Lk) : PyData := .tuple [.int l.2.2.1, .int l.2.2.2]
def looksAt (ls : List Lk) (r m : Nat) : List Lk := ls.filter (lookAt r m)
/-- the greatest of 0 and these -/
def top0 (ns : List Int) : Int := ns.foldl max 0
theorem top0_le : ∀ (ns : List Int) (a : Int), a ≤ ns.foldl max a ∧ ∀ x ∈ ns, x ≤ ns.foldl max a
  | [], a => ⟨Int.le_refl _, fun x h => by cases h⟩
  | n :: ns, a => by
    obtain ⟨h1, h2⟩ := top0_le ns (max a n)
    refine ⟨Int.le_trans (by omega) h1, fun x hx => ?_⟩
    rcases List.mem_cons.mp hx with rfl | hx
    · exact Int.le_trans (by omega) h1
    · exact h2 x hx
theorem top0_mem : ∀ (ns : List Int) (a : Int), ns.foldl max a = a ∨ ns.foldl max a ∈ ns
  | [], a => .inl rfl
  | n :: ns, a => by
    rcases top0_mem ns (max a n) with h | h
    · show ns.foldl max (max a n) = a ∨ _
      by_cases c : n ≤ a
      · left; rw [h]; omega
      · right; rw [List.foldl_cons, h]; exact List.mem_cons.mpr (.inl (by omega))
    · right; exact List.mem_cons_of_mem _ h
/-- a greatest of 0 :: ns is this one -/
theorem top0_is {ns : List Int} {m : Int} (h1 : m ∈ 0 :: ns) (h2 : ∀ y, y ∈ 0 :: ns → y ≤ m) : m = top0 ns := by
  have a := h2 0 List.mem_cons_self
  obtain ⟨b, c⟩ := top0_le ns 0
  unfold top0
  rcases top0_mem ns 0 with e | e
  · have : m ≤ ns.foldl max 0 := by
      rcases List.mem_cons.mp h1 with rfl | h
      · exact b
      · exact c m h
    omega
  · have d := h2 _ (List.mem_cons_of_mem _ e)
    have : m ≤ ns.foldl max 0 := by
      rcases List.mem_cons.mp h1 with rfl | h
      · exact b
      · exact c m h
    omega
def mostOut (ds : List (Nat × Nat)) (B : List Int) (bs : List Bead) (ls : List Lk) (r m : Nat) : Int :=
  if m = 0 then 0 else (hadMet ds B bs r m - top0 ((looksAt ls r m).map fun l => l.2.2.1)) / 2
def leastOut (ds : List (Nat × Nat)) (B : List Int) (bs : List Bead) (ls : List Lk) (r m : Nat) : Int :=
  if m = 0 then 0 else top0 ((looksAt ls r m).map fun l => (hadMet ds B bs r m - l.2.2.2 + 1) / 2)
structure Lt where
  bs : List Bead
  ls : List Lk
  r : Nat
  m : Nat
def Lt.arg (t : Lt) : List PyData := [tapeD t.bs t.ls, .int t.r, .int t.m]
theorem looksAt_small {ls : List Lk} {r m : Nat} (h : ls.length ≤ 10000) : (looksAt ls r m).length ≤ 10000 := Nat.le_trans (List.length_filter_le _ _) h
end Bd
namespace Bd
theorem sz_ {n : Nat} (h : n ≤ 1000) : n ≤ PySem.sizeLine := by unfold PySem.sizeLine; omega
theorem szL {n : Nat} (h : n ≤ 100000) : n < PySem.sizeLine := by unfold PySem.sizeLine; omega
end Bd
namespace Bd
theorem szd {n : Nat} (h : decide (n ≤ 1000) = true) : n ≤ PySem.sizeLine := sz_ (of_decide_eq_true h)
end Bd
namespace Bd
open PySem PySem.Spec PyProof.Rows L2 HT
section
variable {K : PySem.W.Frag} {W : Wd} {ρ : List Sl} {ν : Nat} {ta tb te : TE} {tr : TA} {P : Po} {t u : TS} {k : Nat → Int → Prop} {kl : Nat → List PyData → Prop}
theorem ds_par {i j : Nat} (ni : nOwn ρ i = true) (nj : ∀ x, nOwn (ρ.set i (.d x)) j = true) (h : De K W ρ ν ta fun ν1 x => De K W ρ ν1 tb fun ν2 y => P.nx ν2 ((ρ.set i (.d x)).set j (.d y))) : Ds K W ρ ν (tPar i j (tCons ta (tCons tb tNil))) P := fun S B σ H D st e => by
  refine h S B σ H _ st fun ν1 v H1 x k1 i1 d1 h1 => ?_
  have st1 := st.keep k1 i1
  refine h1 S B σ H1 _ st1 fun ν2 w H2 y k2 i2 d2 hP => ?_
  have st2 := (st1.keep k2 i2).setD ni (d1.same (st1.kpS k2))
  have eo : ownA (ρ.set i (.d x)) = ownA ρ := ownA_set ni rfl
  exact ⟨v, w, rfl, e.nx _ _ _ _ (st2.setD (nj x) (by rw [eo]; exact d2)) hP⟩
/-- both ways of a test go on alike -/
theorem ds_midS (h : Ds K W ρ ν t { P with nx := fun ν' ρ' => Ds K W ρ' ν' u P }) : Ds K W ρ ν (tMid t u) P := ds_mid h fun _ _ h => h
theorem dT_call0 {ι : Type} {arg : ι → List PyData} {pre : ι → Nat → Prop} {post : ι → Nat → Nat → Sl → Prop} (h : Da K W ρ ν tr fun ν1 xs => ∃ i, xs = arg i ∧ pre i 0 ∧ ∀ ν2 s, post i 0 ν2 s → ∃ y, s = .d (.tuple y) ∧ kl ν1 y) : DeT K W ρ ν (tCall (spD K Wn [] arg pre post) [] E0 tr) kl :=
  de_call0 fun S B σ H Q st q => h S B σ H Q st fun n vs H' xs k' i' d ⟨i, e, p, f⟩ => q n vs H' xs k' i' d ⟨i, e, p, fun n2 s hs => by obtain ⟨y, e2, p2⟩ := f n2 s hs; exact ⟨_, e2, y, rfl, p2⟩⟩
theorem de_catTT {Φ : Nat → PyData → Prop} (h : DeT K W ρ ν ta fun ν1 xs => DeT K W ρ ν1 tb fun ν2 ys => xs ≠ [] ∧ ys ≠ [] ∧ xs.length + ys.length ≤ sizeLine ∧ Φ ν2 (.tuple (xs ++ ys))) : De K W ρ ν (tOp (rCatT K) ta tb) Φ :=
  de_catT (De.imp h fun _ x ⟨xs, e, p⟩ => De.imp p fun _ y ⟨ys, e', a, b, c, d⟩ => ⟨xs, ys, e, e', a, b, c, d⟩)
theorem de_slTT {tl th : TO} {Φ : Nat → PyData → Prop} (h : DeT K W ρ ν te fun ν1 xs => Dp0 K W ρ ν1 tl fun ν2 lo => Dp0 K W ρ ν2 th fun ν3 hi => ¬ (HT.sIx xs.length 0 lo = 0 ∧ HT.sIx xs.length xs.length hi = xs.length) ∧ Φ ν3 (.tuple (cutD xs lo hi))) : De K W ρ ν (tSl (rSlT K) te tl th) Φ :=
  de_slT (De.imp h fun _ x ⟨xs, e, p⟩ => fun S B σ H Q st q => p S B σ H Q st fun n o H' k' i' p' => q n o H' k' i' fun S B σ H Q st q => p' S B σ H Q st fun n o H' k' i' ⟨a, b⟩ => q n o H' k' i' ⟨xs, e, a, b⟩)
theorem dT_slT {tl th : TO} (h : DeT K W ρ ν te fun ν1 xs => Dp0 K W ρ ν1 tl fun ν2 lo => Dp0 K W ρ ν2 th fun ν3 hi => ¬ (HT.sIx xs.length 0 lo = 0 ∧ HT.sIx xs.length xs.length hi = xs.length) ∧ kl ν3 (cutD xs lo hi)) : DeT K W ρ ν (tSl (rSlT K) te tl th) kl :=
  de_slTT (De.imp h fun _ x ⟨xs, e, p⟩ => ⟨xs, e, fun S B σ H Q st q => p S B σ H Q st fun n o H' k' i' p' => q n o H' k' i' fun S B σ H Q st q => p' S B σ H Q st fun n o H' k' i' ⟨a, b⟩ => q n o H' k' i' ⟨a, _, rfl, b⟩⟩)
theorem dT_catT (h : DeT K W ρ ν ta fun ν1 xs => DeT K W ρ ν1 tb fun ν2 ys => xs ≠ [] ∧ ys ≠ [] ∧ xs.length + ys.length ≤ sizeLine ∧ kl ν2 (xs ++ ys)) : DeT K W ρ ν (tOp (rCatT K) ta tb) kl :=
  de_catTT (De.imp h fun _ x ⟨xs, e, p⟩ => ⟨xs, e, De.imp p fun _ y ⟨ys, e', a, b, c, d⟩ => ⟨ys, e', a, b, c, _, rfl, d⟩⟩)
end
theorem eqv_nilL (xs : List PyData) : PyData.eqv (.list xs) (.list []) = decide (xs = []) := by
  cases xs with
  | nil => rfl
  | cons x xs => rfl
theorem at_of_lt {xs : List PyData} {r : Int} (h0 : 0 ≤ r) (h1 : r < xs.length) : ∃ d, atD xs r = some d ∧ d ∈ xs := by
  have h : r.toNat < xs.length := by omega
  refine ⟨xs[r.toNat], ?_, List.getElem_mem _⟩
  have := atD_nat (List.getElem?_eq_getElem h)
  rwa [Int.toNat_of_nonneg h0] at this
theorem at_lt {α : Type} {f : α → PyData} {L : List α} {r : Int} (h0 : 0 ≤ r) (h1 : r < L.length) : ∃ a, atD (L.map f) r = some (f a) ∧ L[r.toNat]? = some a := by
  have h : r.toNat < L.length := by omega
  refine ⟨L[r.toNat], ?_, List.getElem?_eq_getElem h⟩
  have := atD_map (f := f) (List.getElem?_eq_getElem h)
  rwa [Int.toNat_of_nonneg h0] at this
theorem set_all {α : Type} {p : α → Prop} {F : List α} {i : Nat} {v : α} (h : ∀ x ∈ F, p x) (hv : p v) : ∀ x ∈ F.set i v, p x := fun x hx => by
  rcases List.mem_or_eq_of_mem_set hx with q | q
  · exact h x q
  · rw [q]; exact hv
theorem ixN_int {n : Nat} {r : Int} (h0 : 0 ≤ r) (h1 : r < n) : ixN n r = some r.toNat := by
  have := ixN_nat (n := n) (j := r.toNat) (by omega)
  rwa [Int.toNat_of_nonneg h0] at this
end Bd
namespace Bd
open PySem PySem.Spec PyProof.Rows L2 HT
theorem ints_of {p : Int → Prop} : ∀ {ys : List PyData}, (∀ y ∈ ys, ∃ x : Int, y = .int x ∧ p x) → ∃ B : List Int, ys = B.map .int ∧ ∀ x ∈ B, p x
  | [], _ => ⟨[], rfl, fun x h => by cases h⟩
  | y :: ys, h => by
    obtain ⟨x, rfl, px⟩ := h y List.mem_cons_self
    obtain ⟨B, rfl, hB⟩ := ints_of fun y hy => h y (List.mem_cons_of_mem _ hy)
    refine ⟨x :: B, rfl, fun z hz => ?_⟩
    rcases List.mem_cons.mp hz with rfl | hz
    · exact px
    · exact hB z hz
theorem things_of {α : Type} {f : α → PyData} {p : α → Prop} : ∀ {ys : List PyData}, (∀ y ∈ ys, ∃ x : α, y = f x ∧ p x) → ∃ B : List α, ys = B.map f ∧ ∀ x ∈ B, p x
  | [], _ => ⟨[], rfl, fun x h => by cases h⟩
  | y :: ys, h => by
    obtain ⟨x, rfl, px⟩ := h y List.mem_cons_self
    obtain ⟨B, rfl, hB⟩ := things_of (f := f) fun y hy => h y (List.mem_cons_of_mem _ hy)
    refine ⟨x :: B, rfl, fun z hz => ?_⟩
    rcases List.mem_cons.mp hz with rfl | hz
    · exact px
    · exact hB z hz
end Bd
namespace Bd
open PySem PySem.Spec PyProof.Rows L2 HT
section
variable {K : PySem.W.Frag} {W : Wd} {S : List Addr} {B : Hp} {ρ : List Sl} {σ : L2.St} {H : Hp} {ν : Nat} {P : Po} {t : TS}
theorem Sta.forgets (st : Sta K W S B ρ σ H ν) : ∀ {vs : List Nat}, (∀ v ∈ vs, nOwn ρ v = true) → Sta K W S B (wipeR ρ vs) σ H ν
  | [], _ => st
  | v :: vs, h => (st.forgets (vs := vs) fun w hw => h w (List.mem_cons_of_mem _ hw)).same0 ((wipeR_own fun w hw => h w (List.mem_cons_of_mem _ hw)).2 v (h v List.mem_cons_self))
theorem ds_wipe (vs : List Nat) (hv : (vs.all fun v => nOwn ρ v) = true) (h : Ds K W (wipeR ρ vs) ν t P) : Ds K W ρ ν t P := fun S B σ H D st e => h S B σ H D (st.forgets fun v hm => List.all_eq_true.mp hv v hm) e
/-- a loop whose turns leave some slots forgotten -/
theorem forW {α : Type} {g : TG} {tb : TS} {xs : List PyData} (vs : List Nat) (enc : α → PyData) (L : List α) (hx : xs = L.map enc) (c : Nat) (Iv : Nat → List Sl → Prop) (hv : (vs.all fun v => nOwn ρ v) = true) (h0 : Iv 0 (wipeR ρ vs))
    (hs : ∀ (k : Nat) (a : α) ν1 r0, L[k]? = some a → ν1 ≤ ν + c * L.length → Iv k r0 → Dg K W r0 ν1 (fun _ => True) g (enc a) fun ρ2 => Ds K W ρ2 ν1 tb ⟨fun ν2 r => ν2 ≤ ν1 + c ∧ (vs.all fun v => nOwn r v) = true ∧ Iv (k + 1) (wipeR r vs), P.rt, P.nx, fun ν2 r => ν2 ≤ ν1 + c ∧ (vs.all fun v => nOwn r v) = true ∧ Iv (k + 1) (wipeR r vs)⟩)
    (hd : ∀ ν2 ρ', ν2 ≤ ν + c * L.length → (vs.all fun v => nOwn ρ' v) = true → Iv L.length (wipeR ρ' vs) → P.nx ν2 ρ') : ForK K W ρ ν g tb P xs := by
  refine forI enc L hx c (fun k r => (vs.all fun v => nOwn r v) = true ∧ Iv k (wipeR r vs)) ⟨hv, h0⟩ (fun k a ν1 ρ' ha hν hI => ?_) (fun ν2 ρ' hν hI => hd ν2 ρ' hν hI.1 hI.2)
  intro S B σ H v Q st d q
  have hvs : ∀ v ∈ vs, nOwn ρ' v = true := fun v hm => List.all_eq_true.mp hI.1 v hm
  have eo := (wipeR_own (ρ := ρ') hvs).1
  refine hs k a ν1 (wipeR ρ' vs) ha hν hI.2 S B σ H v Q (st.forgets hvs) (by rw [eo]; exact d) fun ρ2 σ2 st2 eo2 e2 h2 => q ρ2 σ2 st2 (eo2.trans eo) e2 h2
end
end Bd
namespace Bd
open PySem PySem.Spec PyProof.Rows L2 HT
section
variable {K : PySem.W.Frag} {W : Wd} {ρ : List Sl} {ν : Nat} {ta tb te : TE} {tr : TA} {kb : Nat → Bool → Prop} {k : Nat → Int → Prop} {Ψ : Nat → List PyData → Prop}
theorem dB_isi {n : String} (h : De K W ρ ν te fun ν1 x => ∃ b, PySem.W.kitOne K (.type (tyD x)) (.type n) = some b ∧ kb ν1 b) : DeB K W ρ ν (tCB (rIsi K) (tCons te (tCons (tC (.ty n)) tNil))) kb := de_isi (De.imp h fun _ x ⟨b, e, p⟩ => ⟨b, e, b, rfl, p⟩)
theorem dB_isiO {i : Nat} {a : Addr} {xs : List PyData} {n : String} (ho : ρ[i]? = some (.own a xs)) (h : ∃ b, PySem.W.kitOne K (.type "list") (.type n) = some b ∧ kb ν b) : DeB K W ρ ν (tCB (rIsi K) (tCons (tVar i) (tCons (tC (.ty n)) tNil))) kb :=
  de_peek i ho (de_isi (de_var (List.getElem?_set_self (lt_of_at ho)) (by obtain ⟨b, e, p⟩ := h; exact ⟨b, e, rfl, b, rfl, p⟩)))
theorem dI_maxO {i : Nat} {a : Addr} {ns : List Int} (ho : ρ[i]? = some (.own a (ns.map .int))) (h0 : 0 < ns.length) (h : ∀ m, m ∈ ns → (∀ y, y ∈ ns → y ≤ m) → k ν m) : DeI K W ρ ν (tCB (rMax K) (tCons (tVar i) tNil)) k :=
  de_peek i ho (de_maxL (de_var (List.getElem?_set_self (lt_of_at ho)) ⟨ns, rfl, h0, fun m h1 h2 => ⟨rfl, m, rfl, h m h1 h2⟩⟩))
theorem dI_minO {i : Nat} {a : Addr} {ns : List Int} (ho : ρ[i]? = some (.own a (ns.map .int))) (h0 : 0 < ns.length) (h : ∀ m, m ∈ ns → (∀ y, y ∈ ns → m ≤ y) → k ν m) : DeI K W ρ ν (tCB (rMin K) (tCons (tVar i) tNil)) k :=
  de_peek i ho (de_minL (de_var (List.getElem?_set_self (lt_of_at ho)) ⟨ns, rfl, h0, fun m h1 h2 => ⟨rfl, m, rfl, h m h1 h2⟩⟩))
end
theorem kit_self {K : PySem.W.Frag} (n : String) : PySem.W.kitOne K (.type n) (.type n) = some true := by
  unfold PySem.W.kitOne
  rw [if_pos (by simp)]
end Bd
namespace Bd
open PySem PySem.Spec PyProof.Rows L2 HT
theorem nats_of : ∀ {ys : List PyData} {M : Nat}, (∀ y ∈ ys, ∃ x : Int, y = .int x ∧ 0 ≤ x ∧ x ≤ M) → ∃ ms : List Nat, ys = (ms.map fun (m : Nat) => PyData.int (m : Int)) ∧ ∀ m ∈ ms, m ≤ M := fun {ys M} h => by
  refine things_of (f := fun (m : Nat) => PyData.int (m : Int)) (p := fun m => m ≤ M) fun y hy => ?_
  obtain ⟨x, rfl, h0, h1⟩ := h y hy
  exact ⟨x.toNat, by rw [Int.toNat_of_nonneg h0], by omega⟩
end Bd
namespace Bd
open PySem PySem.Spec PyProof.Rows L2 HT
theorem do_lstRgN {K : PySem.W.Frag} {W : Wd} {ρ : List Sl} {ν : Nat} {te : TE} {Ψ : Nat → List PyData → Prop} (h : DeI K W ρ ν te fun ν1 n => RgOk 0 n ∧ Ψ ν1 ((List.range n.toNat).map fun (i : Nat) => PyData.int (i : Int))) : Do K W ρ ν (tLstRg (tRg1 te)) Ψ := by
  have e : ∀ n : Int, rgV 0 n = ((List.range n.toNat).map fun (i : Nat) => (i : Int)).map V.int := fun n => by
    unfold rgV
    rw [List.map_map, Int.sub_zero]
    refine List.map_congr_left fun i _ => ?_
    show V.int (0 + (i : Int)) = V.int (i : Int)
    rw [Int.zero_add]
  refine do_lstRg1 (De.imp h fun _ x ⟨n, ex, a, b⟩ => ⟨n, ex, a, fun vs ev => ?_⟩) fun n => ⟨_, e n⟩
  rw [e n] at ev
  have inj : ∀ {as bs : List Int}, as.map V.int = bs.map V.int → as = bs := fun {as} => by
    induction as with
    | nil => intro bs h; cases bs with | nil => rfl | cons b bs => cases h
    | cons a as ih =>
      intro bs h
      cases bs with
      | nil => cases h
      | cons b bs =>
        rw [List.map_cons, List.map_cons] at h
        injection h with h1 h2
        injection h1 with h1
        rw [h1, ih h2]
  rw [← inj ev, List.map_map]
  exact b
end Bd
namespace Bd
open PySem PySem.Spec PyProof.Rows L2 HT
theorem rp_bits {i : Int} {k : Nat} (hk : 0 < k) (h9 : k ≤ 90) (h : i.natAbs < 2 ^ k) : Rp (.int i) 0 k := by
  have h90 : i.natAbs < 2 ^ 90 := Nat.lt_of_lt_of_le h (Nat.pow_le_pow_right (by decide) h9)
  have r := rp_int (i := i) (by omega) (by omega)
  refine ⟨r.lay, r.dep, r.sho, r.sml, ?_⟩
  have hl : i.natAbs.log2 < k := PySem.Flt.log2_lt_of hk h
  show (if i == 0 then 0 else i.natAbs.log2 + 1) ≤ k
  split <;> omega
theorem rp_hs {rooms : Nat} {ds : List (Nat × Nat)} (h : Doors rooms ds) (h1 : rooms ≤ 100) (h2 : ds.length ≤ 100) : Rp (houseD rooms ds) 3 4000 := by
  have hd : Rp (doorsD ds) 2 1800 := (rp_list (n := 1) (W := 16) fun x hx => by
    obtain ⟨p, hp, rfl⟩ := List.mem_map.mp hx
    obtain ⟨q1, q2, _⟩ := h p hp
    exact rp_tup (n := 0) (W := 7) (xs := [.int p.1, .int p.2]) fun y hy => by
      simp only [List.mem_cons, List.not_mem_nil, or_false] at hy
      rcases hy with rfl | rfl <;> exact rp_bits (by decide) (by decide) (by omega)).up (by decide) (by rw [List.length_map]; omega)
  exact (rp_tup (n := 2) (W := 1800) (xs := [.int rooms, doorsD ds]) fun x hx => by
    simp only [List.mem_cons, List.not_mem_nil, or_false] at hx
    rcases hx with rfl | rfl
    · exact (rp_bits (k := 7) (by decide) (by decide) (by omega)).up (by decide) (by decide)
    · exact hd).up (by decide) (by show 2 * (1800 + 1) ≤ 4000; decide)
theorem rp_nums {cs : List Int} {k m : Nat} (hk : 0 < k) (h9 : k ≤ 90) (h : ∀ x ∈ cs, x.natAbs < 2 ^ k) (h2 : cs.length ≤ m) : Rp (intsD cs) 1 (m * (k + 1)) :=
  (rp_list (n := 0) (W := k) (xs := cs.map .int) fun x hx => by
    obtain ⟨i, hi, rfl⟩ := List.mem_map.mp hx
    exact rp_bits hk h9 (h i hi)).up (by decide) (by rw [List.length_map]; exact Nat.mul_le_mul_right _ h2)
end Bd
namespace Bd
open PySem PySem.Spec PyProof.Rows L2 HT
theorem wipeR_at {ρ : List Sl} {i : Nat} : ∀ {vs : List Nat}, i ∉ vs → (wipeR ρ vs)[i]? = ρ[i]?
  | [], _ => rfl
  | v :: vs, h => by
    show ((wipeR ρ vs).set v .un)[i]? = _
    rw [List.getElem?_set_ne (fun z => h (by rw [z]; exact List.mem_cons_self))]
    exact wipeR_at fun z => h (List.mem_cons_of_mem _ z)
theorem nOwn_wipe {ρ : List Sl} {vs : List Nat} {i : Nat} (n : i ∉ vs) (h : nOwn (wipeR ρ vs) i = true) : nOwn ρ i = true := by
  unfold nOwn at h ⊢
  rw [wipeR_at n] at h
  exact h
/-- one slot more -/
theorem all_wipe {ρ : List Sl} {vs : List Nat} {i : Nat} (hv : (vs.all fun v => nOwn ρ v) = true) (n : i ∉ vs) (h : nOwn (wipeR ρ vs) i = true) : ((i :: vs).all fun v => nOwn ρ v) = true := by
  rw [List.all_cons, nOwn_wipe n h, hv]; rfl
end Bd
namespace Bd
open PySem PySem.Spec PyProof.Rows L2 HT
section
variable {K : PySem.W.Frag} {H : Hp}
theorem Dds.un {vs : List V} {x : PyData} {xs : List PyData} (h : Dds K H vs (x :: xs)) : ∃ v us, vs = v :: us ∧ Dd K H v x ∧ Dds K H us xs := by
  cases h with
  | cons h1 h2 => exact ⟨_, _, rfl, h1, h2⟩
theorem Dds.nl {vs : List V} (h : Dds K H vs []) : vs = [] := by cases h; rfl
theorem Dds.two {vs : List V} {a b : PyData} (h : Dds K H vs [a, b]) : ∃ v1 v2, vs = [v1, v2] ∧ Dd K H v1 a ∧ Dd K H v2 b := by
  obtain ⟨v1, _, rfl, h1, h⟩ := h.un
  obtain ⟨v2, _, rfl, h2, h⟩ := h.un
  cases h.nl
  exact ⟨_, _, rfl, h1, h2⟩
theorem Dds.three {vs : List V} {a b c : PyData} (h : Dds K H vs [a, b, c]) : ∃ v1 v2 v3, vs = [v1, v2, v3] ∧ Dd K H v1 a ∧ Dd K H v2 b ∧ Dd K H v3 c := by
  obtain ⟨v1, _, rfl, h1, h⟩ := h.un
  obtain ⟨v2, v3, rfl, h2, h3⟩ := h.two
  exact ⟨_, _, _, rfl, h1, h2, h3⟩
theorem Dds.four {vs : List V} {a b c d : PyData} (h : Dds K H vs [a, b, c, d]) : ∃ v1 v2 v3 v4, vs = [v1, v2, v3, v4] ∧ Dd K H v1 a ∧ Dd K H v2 b ∧ Dd K H v3 c ∧ Dd K H v4 d := by
  obtain ⟨v1, _, rfl, h1, h⟩ := h.un
  obtain ⟨v2, v3, v4, rfl, h2, h3, h4⟩ := h.three
  exact ⟨_, _, _, _, rfl, h1, h2, h3, h4⟩
theorem Dds.five {vs : List V} {a b c d e : PyData} (h : Dds K H vs [a, b, c, d, e]) : ∃ v1 v2 v3 v4 v5, vs = [v1, v2, v3, v4, v5] ∧ Dd K H v1 a ∧ Dd K H v2 b ∧ Dd K H v3 c ∧ Dd K H v4 d ∧ Dd K H v5 e := by
  obtain ⟨v1, _, rfl, h1, h⟩ := h.un
  obtain ⟨v2, v3, v4, v5, rfl, h2, h3, h4, h5⟩ := h.four
  exact ⟨_, _, _, _, _, rfl, h1, h2, h3, h4, h5⟩
end
end Bd
namespace Bd
open PySem PySem.Spec PyProof.Rows L2 HT
/-! ## a def that changes the list that is its second argument, and tells nothing -/
def spO1 {ι : Type} (K : PySem.W.Frag) (a1 : ι → PyData) (a2 : ι → List PyData) (xs : ι → List PyData) (pre : ι → Prop) (post : ι → List PyData → Prop) : Sp := fun vs H Q _ => ∃ (i : ι) (a : Addr) (S : List Addr) (v1 : V) (us ws : List V), vs = v1 :: .ref a :: us ∧ a ∉ S ∧ (∀ b ∈ S, ∃ o, H b = some o) ∧
  H a = some (.lst ws) ∧ Dds K (hid (a :: S) H) ws (xs i) ∧ Dd K (hid (a :: S) H) v1 (a1 i) ∧ Dds K (hid (a :: S) H) us (a2 i) ∧ pre i ∧
  ∀ H' ys ws', Kp [a] H H' → H' a = some (.lst ws') → Dds K (hid (a :: S) H') ws' ys → post i ys → Q .non H'
section
variable {ι : Type} {K : PySem.W.Frag} {a1 : ι → PyData} {a2 : ι → List PyData} {xs : ι → List PyData} {pre : ι → Prop} {post : ι → List PyData → Prop}
theorem spO1_len {n : Nat} {vs : List V} {H : Hp} {Q : VK} {E : XK} (h : spO1 K a1 a2 xs pre post vs H Q E) (hl : ∀ i, 2 + (a2 i).length = n) : vs.length = n := by
  obtain ⟨i, a, S, v1, us, ws, rfl, _, _, _, _, _, d, _⟩ := h
  rw [List.length_cons, List.length_cons, d.len, ← hl i]
  omega
theorem ownA_O1 (x : PyData) (a : Addr) (ys xs : List PyData) (n : Nat) : ownA (.d x :: .own a ys :: (xs.map .d ++ List.replicate n .un)) = [a] := by
  have h := ownA_start [] xs n
  show a :: ownA (xs.map .d ++ List.replicate n .un) = [a]
  rw [show ownA (xs.map .d ++ List.replicate n .un) = [] from h]
theorem fn_runO {N : List Str} {vs : List V} {H : Hp} {Q : VK} {E : XK} {t : TS} (h : spO1 K a1 a2 xs pre post vs H Q E)
    (hd : ∀ i a, pre i → Ds K Wn (.d (a1 i) :: .own a (xs i) :: ((a2 i).map .d ++ List.replicate (N.length - (2 + (a2 i).length)) .un)) 0 t ⟨fun _ r => ∃ ys, r[1]? = some (.own a ys) ∧ post i ys, fun _ _ => False, fun _ _ => False, fun _ _ => False⟩) :
    t { nx := fun _ H' => Q .non H', rt := Q } (L2.start N vs) H := by
  obtain ⟨i, a, S, v1, us, ws, rfl, oa, al, ha, dw, d1, d2, hp, q⟩ := h
  have hl := d2.len
  have e1 : L2.start N (v1 :: .ref a :: us) = some v1 :: some (.ref a) :: (us.map some ++ List.replicate (N.length - (2 + (a2 i).length)) none) := by
    unfold L2.start
    rw [List.length_cons, List.length_cons, hl, show (a2 i).length + 1 + 1 = 2 + (a2 i).length by omega]
    rfl
  rw [e1]
  have eo := ownA_O1 (a1 i) a (xs i) (a2 i) (N.length - (2 + (a2 i).length))
  have hS : ∀ b, b ∈ S ++ [a] ↔ b ∈ a :: S := fun b => by simp [or_comm]
  have eh : ∀ H, hid (S ++ [a]) H = hid (a :: S) H := fun H => hid_congr hS
  have tail := (AllSl.ds (H := H) d2).app (AllSl.un (K := K) (Hh := hid (a :: S) H) (H := H) (N.length - (2 + (a2 i).length)))
  have all : AllSl K (hid (a :: S) H) H (.d (a1 i) :: .own a (xs i) :: ((a2 i).map .d ++ List.replicate (N.length - (2 + (a2 i).length)) .un)) (some v1 :: some (.ref a) :: (us.map some ++ List.replicate (N.length - (2 + (a2 i).length)) none)) := by
    refine AllSl.app (ρ1 := [.d (a1 i), .own a (xs i)]) (σ1 := [some v1, some (.ref a)]) ⟨rfl, fun j s e => ?_⟩ tail
    cases j with
    | zero => cases e; exact ⟨_, rfl, v1, rfl, d1⟩
    | succ j =>
      cases j with
      | zero => cases e; exact ⟨_, rfl, rfl, ws, ha, dw⟩
      | succ j => simp at e
  refine hd i a hp S (hid [a] H) _ H _ ⟨all.1, fun j s e => ?_, fun j k b ys zs e1 e2 => ?_, fun b hb => ?_, fun b hb => (nomatch hb), ?_, trivial, fun b hb => ?_, fun _ _ h => (nomatch h)⟩ ⟨fun _ ρ σ H' st ⟨ys, ey, hy⟩ => ?_, fun _ _ _ _ _ h => h.elim, fun _ _ _ _ _ h => h.elim, fun _ _ _ _ _ h => h.elim⟩
  · rw [eo, eh]; exact all.2 j s e
  · have own1 : ∀ {m : Nat} {c : Addr} {qs : List PyData}, (Sl.d (a1 i) :: .own a (xs i) :: ((a2 i).map .d ++ List.replicate (N.length - (2 + (a2 i).length)) .un))[m]? = some (.own c qs) → m = 1 := fun {m c qs} e => by
      cases m with
      | zero => cases e
      | succ m =>
        cases m with
        | zero => rfl
        | succ m =>
          have : c ∈ ownA ((a2 i).map .d ++ List.replicate (N.length - (2 + (a2 i).length)) .un) := mem_ownA.mpr ⟨m, qs, by simpa using e⟩
          rw [show ownA ((a2 i).map .d ++ List.replicate (N.length - (2 + (a2 i).length)) .un) = [] from ownA_start [] (a2 i) _] at this
          cases this
    rw [own1 e1, own1 e2]
  · rw [eo, List.mem_singleton] at hb
    rw [hb]; exact oa
  · rw [eo]; exact fun _ _ h => h
  · obtain ⟨o, e⟩ := al b hb
    exact .inr ⟨o, hid_of e (by rw [List.mem_singleton]; rintro rfl; exact oa hb)⟩
  · obtain ⟨u, eu, e2, ws', e3, dy⟩ := st.sl 1 _ ey
    have ma : a ∈ ownA ρ := mem_ownA.mpr ⟨_, _, ey⟩
    refine q H' ys ws' (fun b o e => ?_) e3 (dy.same (hid_sub fun b hb => ?_)) hy
    · exact (hid_sub (S := [] ++ ownA ρ) (S' := [a]) (fun c hc => by rw [List.mem_singleton] at hc; rw [hc]; exact ma)) b o (st.fr b o e)
    · rcases List.mem_cons.mp hb with rfl | hb
      · exact List.mem_append_right _ ma
      · exact List.mem_append_left _ hb
theorem fn_dsO {N : List Str} {vs : List V} {H : Hp} {Q : VK} {E : XK} {t : TS} (ρ0 : ι → Addr → List Sl) (h : spO1 K a1 a2 xs pre post vs H Q E)
    (hρ : ∀ i a, .d (a1 i) :: .own a (xs i) :: ((a2 i).map .d ++ List.replicate (N.length - (2 + (a2 i).length)) .un) = ρ0 i a)
    (hd : ∀ i a, pre i → Ds K Wn (ρ0 i a) 0 t ⟨fun _ r => ∃ ys, r[1]? = some (.own a ys) ∧ post i ys, fun _ _ => False, fun _ _ => False, fun _ _ => False⟩) :
    t { nx := fun _ H' => Q .non H', rt := Q } (L2.start N vs) H := fn_runO h fun i a hp => by rw [hρ]; exact hd i a hp
variable {W : Wd} {ρ : List Sl} {ν : Nat} {ta : TE} {tr : TA} {P : Po}
theorem ds_callO {n : Nat} {a : Addr} {ys : List PyData} (ho : ρ[n]? = some (.own a ys)) (h : De K W ρ ν ta fun ν1 x => Da K W ρ ν1 tr fun ν2 zs => ∃ i, x = a1 i ∧ zs = a2 i ∧ ys = xs i ∧ pre i ∧ ∀ ys', post i ys' → P.nx ν2 (ρ.set n (.own a ys'))) :
    Ds K W ρ ν (tDrop (tCall (spO1 K a1 a2 xs pre post) [] E0 (tCons ta (tCons (tVar n) tr)))) P := fun S B σ H D st e => by
  refine h S B σ H _ st fun ν1 v1 H1 x k1 i1 d1 h1 => ?_
  have st1 := st.keep k1 i1
  obtain ⟨w, ew, e1, vs, e2, d⟩ := st1.sl n _ ho
  subst e1
  refine ⟨_, ew, h1 S B σ H1 _ st1 fun ν2 us H2 zs k2 i2 d2 ⟨i, ex, ez, ey, hp, hq⟩ => ?_⟩
  subst ex ez ey
  have st2 := st1.keep k2 i2
  rw [List.append_nil]
  have ma : a ∈ ownA ρ := mem_ownA.mpr ⟨_, _, ho⟩
  -- all that is hidden, but for the list itself
  let S' := (S ++ ownA ρ).filter (fun b => b ≠ a)
  have mS : ∀ b, b ∈ a :: S' ↔ b ∈ S ++ ownA ρ := fun b => by
    show b ∈ a :: (S ++ ownA ρ).filter _ ↔ _
    rw [List.mem_cons, List.mem_filter]
    constructor
    · rintro (rfl | ⟨h, _⟩)
      · exact List.mem_append_right _ ma
      · exact h
    · intro h
      by_cases e : b = a
      · exact .inl e
      · exact .inr ⟨h, by simpa using e⟩
  have eh : ∀ H, hid (a :: S') H = hid (S ++ ownA ρ) H := fun H => hid_congr mS
  refine ⟨i, a, S', v1, us, vs, rfl, ?_, fun b hb => st2.alive b ((mS b).mp (List.mem_cons_of_mem _ hb)), k2.at e2 (st.ownJ ma), ?_, ?_, ?_, hp, fun H' ys' ws' k3 e3 d3 hy => ?_⟩
  · show a ∉ (S ++ ownA ρ).filter _
    rw [List.mem_filter]
    rintro ⟨_, z⟩
    simp at z
  · rw [eh]; exact d.same (st1.kpS k2)
  · rw [eh]; exact d1.same (st1.kpS k2)
  · rw [eh]; exact d2
  · rw [eh] at d3
    -- the list is written, the rest stays
    have d4 : Dds K (hid (S ++ ownA ρ) H') ws' ys' := d3
    have sm : Same (upd H2 a (.lst ws')) H' := fun b o eb => by
      by_cases z : b = a
      · subst z
        rw [upd_same] at eb
        cases eb
        exact e3
      · rw [upd_ne z] at eb
        exact k3.at eb (by simpa using z)
    have hJ : ∀ b ∈ W.J, H' b = H2 b := fun b hb => by
      obtain ⟨o, eo⟩ := W.hJ st2.inv b hb
      rw [eo, k3.at eo (by rw [List.mem_singleton]; rintro rfl; exact st.ownJ ma hb)]
    have eo : ownA (ρ.set n (.own a ys')) = ownA ρ := ownA_setSame ho
    have fr : ∀ {T : List Addr}, Same (hid (T ++ ownA ρ) H2) (hid (T ++ ownA ρ) H') := fun {T} b o eb => by
      obtain ⟨q1, q2⟩ := of_hid eb
      exact hid_of (k3.at q1 (by rw [List.mem_singleton]; rintro rfl; exact q2 (List.mem_append_right _ ma))) q2
    refine e.nx ν2 (ρ.set n (.own a ys')) σ H' ⟨by rw [List.length_set]; exact st2.len, fun j r er => ?_, fun j k b zs ws e1 e2 => ?_, by rw [eo]; exact st2.out, st2.js, by rw [eo]; exact st2.fr.trans fr, W.hI hJ st2.inv, st2.al, st2.gb⟩ (hq ys' hy)
    · rw [eo]
      rcases get_set er with ⟨rfl, rfl⟩ | ⟨ne, er'⟩
      · obtain ⟨u, eu, e1, _⟩ := st2.sl n _ ho
        exact ⟨u, eu, e1, ws', e3, d4⟩
      · obtain ⟨u, eu, h'⟩ := st2.sl j r er'
        refine ⟨u, eu, ?_⟩
        cases r with
        | un => trivial
        | d x => obtain ⟨v, e1, dv⟩ := h'; exact ⟨v, e1, dv.same fr⟩
        | own b zs =>
          obtain ⟨e1, us', e2', dv⟩ := h'
          refine ⟨e1, us', k3.at e2' ?_, dv.same fr⟩
          rw [List.mem_singleton]
          rintro rfl
          exact ne (st2.nd n j b _ zs ho er')
        | «at» v => exact h'
    · have g : ∀ {m : Nat} {c : Addr} {qs : List PyData}, (ρ.set n (.own a ys'))[m]? = some (.own c qs) → ∃ qs', ρ[m]? = some (.own c qs') := fun {m c qs} e => by
        rcases get_set e with ⟨rfl, z⟩ | ⟨_, e⟩
        · cases z; exact ⟨_, ho⟩
        · exact ⟨qs, e⟩
      obtain ⟨_, g1⟩ := g e1
      obtain ⟨_, g2⟩ := g e2
      exact st2.nd j k b _ _ g1 g2
end
end Bd
namespace Bd
open PySem PySem.Spec PyProof.Rows L2 HT
theorem enumD_map {α : Type} (f : α → PyData) (L : List α) : enumD (L.map f) = L.zipIdx.map fun p => .tuple [.int (p.2 : Int), f p.1] := by
  apply List.ext_getElem?
  intro i
  rw [List.getElem?_map, List.getElem?_zipIdx]
  cases c : L[i]? with
  | none =>
    rw [List.getElem?_eq_none]
    · rfl
    · rw [enumD_len, List.length_map]
      exact List.getElem?_eq_none_iff.mp c
  | some a =>
    rw [enumD_at (x := f a) (by rw [List.getElem?_map, c]; rfl)]
    simp
theorem zipIdx_at {α : Type} {L : List α} {k : Nat} {p : α × Nat} (h : L.zipIdx[k]? = some p) : L[k]? = some p.1 ∧ p.2 = k := by
  rw [List.getElem?_zipIdx] at h
  cases c : L[k]? with
  | none => rw [c] at h; cases h
  | some a =>
    rw [c] at h
    have := Option.some.inj h
    subst this
    exact ⟨rfl, by simp⟩
theorem get_ints {F : List Int} {i : Nat} (h : i < F.length) : (F.map PyData.int)[i]? = some (.int (F.getD i 0)) := by
  rw [List.getElem?_map, List.getD_eq_getElem?_getD, List.getElem?_eq_getElem h]; rfl
theorem getD_some {F : List Int} {i : Nat} (h : i < F.length) : F[i]? = some (F.getD i 0) := by
  rw [List.getD_eq_getElem?_getD, List.getElem?_eq_getElem h]; rfl
theorem atD_int {F : List Int} {r : Int} (h0 : 0 ≤ r) (h1 : r < F.length) : atD (F.map .int) r = some (.int (F.getD r.toNat 0)) := by
  have := atD_ints (ns := F) (i := r.toNat) (by omega)
  rwa [Int.toNat_of_nonneg h0] at this
end Bd
namespace Bd
open PySem PySem.Spec PyProof.Rows L2 HT
theorem flat_rep0 (n : Nat) (c : Int) : (List.replicate n [PyData.int c]).flatten = (List.replicate n c).map .int := by
  induction n with
  | zero => rfl
  | succ n ih => rw [List.replicate_succ, List.flatten_cons, ih, List.replicate_succ]; rfl
end Bd
namespace Bd
open PySem PySem.Spec PyProof.Rows L2 HT
/-! ## a def that reads an own list of numbers (its second argument) and tells a new list -/
def spV1 {ι : Type} (K : PySem.W.Frag) (a1 : ι → PyData) (Fs : ι → List Int) (pre : ι → Prop) (post : ι → List PyData → Prop) : Sp := fun vs H Q _ => ∃ (i : ι) (a : Addr) (S : List Addr) (v1 : V), vs = [v1, .ref a] ∧ a ∉ S ∧ (∀ b ∈ S, ∃ o, H b = some o) ∧
  H a = some (.lst ((Fs i).map V.int)) ∧ Dd K (hid (a :: S) H) v1 (a1 i) ∧ pre i ∧
  ∀ H' p ws ys, Same H H' → H p = none → H' p = some (.lst ws) → Dds K (hid (p :: a :: S) H') ws ys → post i ys → Q (.ref p) H'
section
variable {ι : Type} {K : PySem.W.Frag} {a1 : ι → PyData} {Fs : ι → List Int} {pre : ι → Prop} {post : ι → List PyData → Prop}
theorem spV1_len {vs : List V} {H : Hp} {Q : VK} {E : XK} (h : spV1 K a1 Fs pre post vs H Q E) : vs.length = 2 := by
  obtain ⟨i, a, S, v1, rfl, _⟩ := h; rfl
/-- the world of a list that is only read -/
abbrev Wv (a : Addr) (F : List Int) : Wd := Wn.add a fun _ ns => ns = F
theorem fn_dsV {N : List Str} {vs : List V} {H : Hp} {Q : VK} {E : XK} {t : TS} (h : spV1 K a1 Fs pre post vs H Q E)
    (hd : ∀ i a, pre i → Ds K (Wv a (Fs i)) (.d (a1 i) :: .at (.ref a) :: List.replicate (N.length - 2) .un) 0 t ⟨fun _ _ => False, fun _ s => ∃ p ys, s = .own p ys ∧ post i ys, fun _ _ => False, fun _ _ => False⟩) :
    t { nx := fun _ H' => Q .non H', rt := Q } (L2.start N vs) H := by
  obtain ⟨i, a, S, v1, rfl, oa, al, ha, d1, hp, q⟩ := h
  have e1 : L2.start N [v1, .ref a] = some v1 :: some (.ref a) :: List.replicate (N.length - 2) none := rfl
  rw [e1]
  have eo : ownA (.d (a1 i) :: .at (.ref a) :: List.replicate (N.length - 2) .un) = [] := by
    show ownA (List.replicate (N.length - 2) .un) = []
    exact ownA_start [] [] (N.length - 2)
  have all : AllSl K (hid (a :: S) H) H (.d (a1 i) :: .at (.ref a) :: List.replicate (N.length - 2) .un) (some v1 :: some (.ref a) :: List.replicate (N.length - 2) none) := by
    refine AllSl.app (ρ1 := [.d (a1 i), .at (.ref a)]) (σ1 := [some v1, some (.ref a)]) ⟨rfl, fun j s e => ?_⟩ (AllSl.un _)
    cases j with
    | zero => cases e; exact ⟨_, rfl, v1, rfl, d1⟩
    | succ j =>
      cases j with
      | zero => cases e; exact ⟨_, rfl, rfl⟩
      | succ j => simp at e
  refine hd i a hp (a :: S) (hid [a] H) _ H _ ⟨all.1, fun j s e => ?_, fun j k b ys zs e1 e2 => ?_, fun b hb => ?_, fun b hb => ?_, ?_, ⟨trivial, Fs i, ha, rfl⟩, fun b hb => ?_, fun _ _ h => (nomatch h)⟩ ⟨fun _ _ _ _ _ h => h.elim, fun _ s v H' r ⟨p, ys, es, hy⟩ => ?_, fun _ _ _ _ _ h => h.elim, fun _ _ _ _ _ h => h.elim⟩
  · rw [eo, List.append_nil]; exact all.2 j s e
  · have := mem_ownA.mpr ⟨j, ys, e1⟩
    rw [eo] at this; cases this
  · rw [eo] at hb; cases hb
  · have : b ∈ [a] := hb
    rw [List.mem_singleton] at this
    rw [this]; exact List.mem_cons_self
  · rw [eo, List.append_nil]; exact fun _ _ h => h
  · rcases List.mem_cons.mp hb with rfl | hb'
    · exact .inl List.mem_cons_self
    · obtain ⟨o, e⟩ := al b hb'
      exact .inr ⟨o, hid_of e (by rw [List.mem_singleton]; rintro rfl; exact oa hb')⟩
  · subst es
    obtain ⟨r1, r2, rfl, r4, r5, ws, r6, r7⟩ := r
    obtain ⟨_, ns, e2, en⟩ := r2
    subst en
    have sm : Same H H' := fun b o eb => by
      by_cases z : b = a
      · subst z; rw [ha] at eb; cases eb; exact e2
      · exact (of_hid (r1 b o (hid_of eb (by simpa using z)))).1
    have np : H p = none := by
      cases c : H p with
      | none => rfl
      | some o => rw [hid_of c (by rw [List.mem_singleton]; rintro rfl; exact r4 List.mem_cons_self)] at r5; cases r5
    exact q H' p ws ys sm np r6 r7 hy
variable {W : Wd} {ρ : List Sl} {ν : Nat} {ta tb : TE} {Ψ : Nat → List PyData → Prop} {k : Nat → Int → Prop}
theorem do_callV {n : Nat} {a : Addr} {F : List Int} (ho : ρ[n]? = some (.own a (F.map .int))) (h : De K W ρ ν ta fun ν1 x => ∃ i, x = a1 i ∧ F = Fs i ∧ pre i ∧ ∀ ys, post i ys → Ψ ν1 ys) :
    Do K W ρ ν (tCall (spV1 K a1 Fs pre post) [] E0 (tCons ta (tCons (tVar n) tNil))) Ψ := fun S B σ H Q st q => by
  refine h S B σ H _ st fun ν1 v1 H1 x k1 i1 d1 ⟨i, ex, ef, hp, hq⟩ => ?_
  subst ex ef
  have st1 := st.keep k1 i1
  obtain ⟨w, ew, e1, vs, e2, d⟩ := st1.sl n _ ho
  subst e1
  have ev := d.ints_eq
  subst ev
  refine ⟨_, ew, ?_⟩
  have ma : a ∈ ownA ρ := mem_ownA.mpr ⟨_, _, ho⟩
  let S' := (S ++ ownA ρ).filter (fun b => b ≠ a)
  have mS : ∀ b, b ∈ a :: S' ↔ b ∈ S ++ ownA ρ := fun b => by
    show b ∈ a :: (S ++ ownA ρ).filter _ ↔ _
    rw [List.mem_cons, List.mem_filter]
    constructor
    · rintro (rfl | ⟨h, _⟩)
      · exact List.mem_append_right _ ma
      · exact h
    · intro h
      by_cases e : b = a
      · exact .inl e
      · exact .inr ⟨h, by simpa using e⟩
  have eh : ∀ H, hid (a :: S') H = hid (S ++ ownA ρ) H := fun H => hid_congr mS
  have eh2 : ∀ p H, hid (p :: a :: S') H = hid (p :: (S ++ ownA ρ)) H := fun p H => hid_congr fun b => by
    rw [List.mem_cons, List.mem_cons (l := S ++ ownA ρ), mS]
  refine ⟨i, a, S', v1, rfl, ?_, fun b hb => st1.alive b ((mS b).mp (List.mem_cons_of_mem _ hb)), e2, by rw [eh]; exact d1, hp, fun H' p ws ys sm np ep dy hy => ?_⟩
  · show a ∉ (S ++ ownA ρ).filter _
    rw [List.mem_filter]
    rintro ⟨_, z⟩
    simp at z
  · rw [eh2] at dy
    have f := st1.fresh np
    exact q ν1 p H' ws ys (k1.trans (Kp.same sm)) (W.hI (fun b hb => by obtain ⟨o, eo⟩ := W.hJ st1.inv b hb; rw [eo, sm _ _ eo]) st1.inv) (k1.none f.2.2 np) ep dy (hq ys hy)
/-- an item of the list that is read -/
theorem dI_ixV {n : Nat} {a : Addr} {F : List Int} (hj : ρ[n]? = some (.at (.ref a))) (h : DeI K (Wv a F) ρ ν tb fun ν1 i => ∃ c, atI (F.map V.int) i = some (.int c) ∧ k ν1 c) : DeI K (Wv a F) ρ ν (tOp (rIxL K) (tVar n) tb) k := fun S B σ H Q st q => by
  obtain ⟨u, eu, e1⟩ := st.sl n _ hj
  subst e1
  refine ⟨_, eu, h S B σ H _ st fun ν1 v H1 x k1 i1 d1 ⟨i, ex, c, ec, hk⟩ => ?_⟩
  subst ex; cases d1
  have i1' : True ∧ ∃ ns : List Int, H1 a = some (.lst (ns.map V.int)) ∧ ns = F := i1
  obtain ⟨_, ns, e2, rfl⟩ := i1'
  exact ⟨a, _, i, _, rfl, rfl, .inl (.inl e2), ec, q ν1 _ H1 _ k1 i1 (.int _) ⟨c, rfl, hk⟩⟩
end
section
variable {K : PySem.W.Frag} {W : Wd} {ρ : List Sl} {ν : Nat} {ta tb : TE} {kb : Nat → Bool → Prop}
theorem dB_neO {n : Nat} {a : Addr} {xs : List PyData} (ho : ρ[n]? = some (.own a xs)) (hs : SeqAt.shaped (.list xs) = true) (h : kb ν (!decide (xs = []))) : DeB K W ρ ν (tOp (rNeD K) (tVar n) (tLst tNil)) kb :=
  de_peek n ho (de_neD (de_var (List.getElem?_set_self (lt_of_at ho)) (Do.de (do_lst (da_nil ⟨szd rfl, hs, rfl, rfl, _, rfl, by rw [eqv_nilL]; exact h⟩)))))
theorem atI_ints {F : List Int} {i : Nat} (h : i < F.length) : atI (F.map V.int) (i : Int) = some (.int (F.getD i 0)) := by
  refine atI_nat ?_
  rw [List.getElem?_map, List.getD_eq_getElem?_getD, List.getElem?_eq_getElem h]; rfl
end
end Bd
namespace Bd
open PySem PySem.Spec PyProof.Rows L2 HT
/-- a slice of things is some of them -/
theorem cutD_some {α : Type} (f : α → PyData) (L : List α) (lo hi : Option Int) : ∃ L' : List α, cutD (L.map f) lo hi = L'.map f ∧ L'.length ≤ L.length := by
  refine ⟨(L.drop (HT.sIx (L.map f).length 0 lo)).take (HT.sIx (L.map f).length (L.map f).length hi - HT.sIx (L.map f).length 0 lo), ?_, ?_⟩
  · unfold cutD
    rw [List.map_take, List.map_drop]
  · rw [List.length_take, List.length_drop]; omega
theorem shp_mapL {α : Type} {f : α → PyData} {n : Nat} (L : List α) (h : ∀ a, Shp n (f a)) : Shp (n + 1) (.list (L.map f)) := shp_list fun x hx => by
  obtain ⟨a, _, rfl⟩ := List.mem_map.mp hx
  exact h a
theorem shp_pr {a b : Int} : Shp 1 (.tuple [.int a, .int b]) := shp_tup fun x hx => by
  simp only [List.mem_cons, List.not_mem_nil, or_false] at hx
  rcases hx with rfl | rfl <;> exact shp_int _
end Bd
namespace Bd
open PySem PySem.Spec PyProof.Rows L2 HT
/-- these are things, so many at most -/
def Tg {α : Type} (f : α → PyData) (xs : List PyData) (n : Nat) : Prop := ∃ L : List α, xs = L.map f ∧ L.length ≤ n
section
variable {α : Type} {f : α → PyData} {xs ys : List PyData} {n m : Nat}
theorem Tg.app (h : Tg f xs n) (g : Tg f ys m) : Tg f (xs ++ ys) (n + m) := by
  obtain ⟨A, rfl, ha⟩ := h
  obtain ⟨B, rfl, hb⟩ := g
  exact ⟨A ++ B, by rw [List.map_append], by rw [List.length_append]; omega⟩
theorem Tg.cut (L : List α) (lo hi : Option Int) : Tg f (cutD (L.map f) lo hi) L.length := cutD_some f L lo hi
theorem Tg.of (L : List α) : Tg f (L.map f) L.length := ⟨L, rfl, Nat.le_refl _⟩
theorem Tg.len (h : Tg f xs n) : xs.length ≤ n := by obtain ⟨A, rfl, ha⟩ := h; rw [List.length_map]; exact ha
theorem Tg.two (h : Tg f xs n) (g : Tg f ys m) (hn : n + m ≤ 1000000) : xs.length + ys.length ≤ PySem.sizeLine := by
  have := h.len; have := g.len; unfold PySem.sizeLine; omega
theorem Tg.up (h : Tg f xs n) (hm : n ≤ m) : Tg f xs m := by obtain ⟨A, e, ha⟩ := h; exact ⟨A, e, Nat.le_trans ha hm⟩
end
end Bd
namespace Bd
open PySem PySem.Spec PyProof.Rows L2 HT
def isNoD : PyData → Bool
  | .none => true
  | _ => false
section
variable {K : PySem.W.Frag} {W : Wd} {ρ : List Sl} {ν : Nat} {te : TE} {k : Nat → Int → Prop} {Ψ : Nat → List PyData → Prop}
theorem dI_lenKL (h : DeL K W ρ ν te fun ν1 xs => k ν1 (xs.length : Int)) : DeI K W ρ ν (tCB (rLenK K) (tCons te tNil)) k := dI_lenL h
theorem dI_lenKT (h : DeT K W ρ ν te fun ν1 xs => k ν1 (xs.length : Int)) : DeI K W ρ ν (tCB (rLenK K) (tCons te tNil)) k := dI_lenT h
theorem dI_lenKO {i : Nat} {a : Addr} {xs : List PyData} (ho : ρ[i]? = some (.own a xs)) (h : k ν (xs.length : Int)) : DeI K W ρ ν (tCB (rLenK K) (tCons (tVar i) tNil)) k := dI_lenO ho h
theorem do_listK (h : De K W ρ ν te fun ν1 x => ∃ xs, (x = .list xs ∨ x = .tuple xs) ∧ Ψ ν1 xs) : Do K W ρ ν (tCB (rListK K) (tCons te tNil)) Ψ := do_list h
theorem isN_eq {H : Hp} {v : V} {x : PyData} (d : Dd K H v x) : decide (v = V.non) = isNoD x := by
  cases d <;> first | rfl | (exact decide_eq_false (fun z => nomatch z)) | (exact decide_eq_true rfl)
theorem de_isN {Φ : Nat → PyData → Prop} (h : De K W ρ ν te fun ν1 x => Φ ν1 (.bool (isNoD x))) : De K W ρ ν (tOp (fun x y H Q => y = .non ∧ Q (.bl (decide (x = .non))) H) te (tC .non)) Φ := fun S B σ H Q st q => by
  refine h S B σ H _ st fun ν1 v H1 x k1 i1 d1 hΦ => ⟨rfl, ?_⟩
  rw [isN_eq d1]
  exact q ν1 _ H1 _ k1 i1 (.bl _) hΦ
theorem dB_notN {kb : Nat → Bool → Prop} (h : De K W ρ ν te fun ν1 x => kb ν1 (!isNoD x)) : DeB K W ρ ν (tOp (fun x y H Q => y = .non ∧ Q (.bl (!decide (x = .non))) H) te (tC .non)) kb := fun S B σ H Q st q => by
  refine h S B σ H _ st fun ν1 v H1 x k1 i1 d1 hΦ => ⟨rfl, ?_⟩
  rw [isN_eq d1]
  exact q ν1 _ H1 _ k1 i1 (.bl _) ⟨_, rfl, hΦ⟩
end
end Bd
namespace Bd
open PySem PySem.Spec PyProof.Rows L2 HT
section
variable {K : PySem.W.Frag} {W : Wd} {ρ : List Sl} {ν : Nat} {te : TE} {Φ : Nat → PyData → Prop} {Ψ : Nat → List PyData → Prop}
theorem do_listL (h : DeL K W ρ ν te Ψ) : Do K W ρ ν (tCB (fun xs H Q => ∃ p ys, xs = [.ref p] ∧ (SqL K H p ys ∨ SqT K H p ys) ∧ ∀ l, H l = none → Q (.ref l) (upd H l (.lst ys))) (tCons te tNil)) Ψ := do_list (De.imp h fun _ x ⟨xs, e, p⟩ => ⟨xs, .inl e, p⟩)
theorem de_listL (h : DeL K W ρ ν te fun ν1 xs => Φ ν1 (.list xs)) : De K W ρ ν (tCB (fun xs H Q => ∃ p ys, xs = [.ref p] ∧ (SqL K H p ys ∨ SqT K H p ys) ∧ ∀ l, H l = none → Q (.ref l) (upd H l (.lst ys))) (tCons te tNil)) Φ := Do.de (do_listL h)
end
end Bd
namespace Bd
open PySem PySem.Spec PyProof.Rows L2 HT
/-- a loop whose turns leave some slots forgotten; draws are not counted -/
theorem forN {K : PySem.W.Frag} {W : Wd} {ρ : List Sl} {ν : Nat} {P : Po} {α : Type} {g : TG} {tb : TS} {xs : List PyData} (vs : List Nat) (enc : α → PyData) (L : List α) (hx : xs = L.map enc) (Iv : Nat → List Sl → Prop) (hv : (vs.all fun v => nOwn ρ v) = true) (h0 : Iv 0 (wipeR ρ vs))
    (hs : ∀ (k : Nat) (a : α) ν1 r0, L[k]? = some a → Iv k r0 → Dg K W r0 ν1 (fun _ => True) g (enc a) fun ρ2 => Ds K W ρ2 ν1 tb ⟨fun _ r => (vs.all fun v => nOwn r v) = true ∧ Iv (k + 1) (wipeR r vs), P.rt, P.nx, fun _ r => (vs.all fun v => nOwn r v) = true ∧ Iv (k + 1) (wipeR r vs)⟩)
    (hd : ∀ ν2 ρ', (vs.all fun v => nOwn ρ' v) = true → Iv L.length (wipeR ρ' vs) → P.nx ν2 ρ') : ForK K W ρ ν g tb P xs := by
  subst hx
  refine ⟨fun k _ r => (vs.all fun v => nOwn r v) = true ∧ Iv k (wipeR r vs), ⟨hv, h0⟩, fun k x ν2 ρ' hx hI => ?_, fun ν2 ρ' hI => ?_⟩
  · rw [List.getElem?_map] at hx
    cases cc : L[k]? with
    | none => rw [cc] at hx; cases hx
    | some a =>
      rw [cc] at hx
      cases hx
      intro S B σ H v Q st d q
      have hvs : ∀ v ∈ vs, nOwn ρ' v = true := fun v hm => List.all_eq_true.mp hI.1 v hm
      have eo := (wipeR_own (ρ := ρ') hvs).1
      refine hs k a ν2 (wipeR ρ' vs) cc hI.2 S B σ H v Q (st.forgets hvs) (by rw [eo]; exact d) fun ρ2 σ2 st2 eo2 e2 h2 => q ρ2 σ2 st2 (eo2.trans eo) e2 h2
  · rw [List.length_map] at hI
    exact hd ν2 ρ' hI.1 hI.2
end Bd
namespace Bd
open PySem PySem.Spec PyProof.Rows L2 HT
theorem truth_ints {prog : Program} {w : World} {A : Around} {ns : List Int} {its : List Value} (r : Vals (ns.map V.int) its) : TruthOf prog w A (fun i v => its.toArray[i]? = some v) fun i => (ns.map fun i => i != 0).getD i false := by
  intro i v s Q E hv hq
  have hl := r.length
  rw [List.length_map] at hl
  have hi : i < its.length := by
    have := (Array.getElem?_eq_some_iff.mp hv).1
    simpa using this
  have e : (ns.map V.int)[i]? = some (.int ns[i]) := by rw [List.getElem?_map, List.getElem?_eq_getElem (by omega)]; rfl
  obtain ⟨u, eu, ru⟩ := r.get e
  obtain ⟨t, rfl⟩ := ru
  have ev : v = Value.int ns[i] t := by
    rw [List.getElem?_toArray] at hv
    rw [hv] at eu
    exact Option.some.inj eu
  subst ev
  have g : (ns.map fun i => i != 0).getD i false = (ns[i] != 0) := by
    rw [List.getD_eq_getElem?_getD, List.getElem?_map, List.getElem?_eq_getElem (by omega)]; rfl
  have hq : Q ((ns.map fun i => i != 0).getD i false) s := hq
  rw [g] at hq
  exact truthy_int hq
def rAnyI (K : PySem.W.Frag) : List V → Hp → VK → Prop := fun vs H Q => ∃ (a : Addr) (ns : List Int), vs = [V.ref a] ∧ SqL K H a (ns.map V.int) ∧ Q (.bl (ns.any fun i => i != 0)) H
theorem cr_anyI {X : Cx} (hc : X.calm = true) : CallR X (.builtin "any") (rAnyI X.K) := by
  intro pins s σ H vs us Q I r h
  obtain ⟨a, ns, rfl, hs, q⟩ := h
  obtain ⟨its, rv, hl, _⟩ := I.list hs
  have hln := rv.length
  rw [List.length_map] at hln
  rw [Vals.ref1 r]
  refine call_any_walk (iter_any (PlainL.isList hl) fun s₂ e2 st hne => ?_)
  subst e2
  refine ⟨_, [s.heap.objs.size, a], [s.heap.objs.size], its.toArray.size, fun i v => its.toArray[i]? = some v, fun i h => h.IsListIter s.heap.objs.size a i ∧ h.IsList a its.toArray, fun i => (ns.map fun i => i != 0).getD i false, rfl, Walks.list (A := X.A.in1) (I.ok.hd hc) s.heap.objs.size a hne its.toArray, st, truth_ints rv, fun h' tk hk => ⟨.bl (ns.any fun i => i != 0), H, I.kept fun b o eo => hk b o (fun hm => ?_) (Heap.get?_push_of_some _ eo), ?_, q⟩⟩
  · have := Heap.lt_size eo
    rw [List.mem_singleton.mp hm] at this
    exact absurd this (Nat.lt_irrefl _)
  · have e : ((List.range its.toArray.size).any fun i => (ns.map fun i => i != 0).getD i false) = ns.any fun i => i != 0 := by
      rw [show its.toArray.size = (ns.map fun i => i != 0).length by simp; omega, L2.any_range]
      simp [List.any_map]
    rw [e]; rfl
end Bd
namespace Bd
open PySem PySem.Spec PyProof.Rows L2 HT
theorem op_shr {X : Cx} : OpR X (binaryOp .RShift) (rI (fun _ j => 0 ≤ j) fun i j => .int (i / 2 ^ j.toNat)) :=
  opI fun i j _ _ _ _ _ hc q => rshift_int hc (by rw [Int.fdiv_eq_ediv_of_nonneg i (two_pow_nn j.toNat)]; exact q)
theorem op_band {X : Cx} : OpR X (binaryOp .BitAnd) (rI0 fun i j => .int (Builtin.bitAnd i j)) := opI0 fun _ _ _ _ _ _ _ q => and_int q
/-- whether a thing is true, over K alone -/
def tTru (K : PySem.W.Frag) (ta : TE) : TT := fun σ H Q => ta σ H fun x H' => ∃ k, TruV K x H' k ∧ Q k H'
theorem pt_tru {X : Cx} {K : PySem.W.Frag} {a : Expr} {ta : TE} (hK : X.K = K) (h : PE X a ta) (hs : ∀ whole : Sem Value, PySem.isTrue a X.env whole = do
          let v ← whole
          standAt a.pos
          holding [v] (truthy v)) : PT X a (tTru K ta) := by subst hK; exact pt_truth h hs
theorem dec_vb (i j : Bool) : decide (V.bl i = V.bl j) = decide (i = j) := by
  by_cases h : i = j
  · subst h; simp
  · rw [decide_eq_false h, decide_eq_false]
    intro z; exact h (V.bl.inj z)
section
variable {K : PySem.W.Frag} {W : Wd} {ρ : List Sl} {ν : Nat} {ta tb te : TE} {kb : Nat → Bool → Prop} {k : Nat → Int → Prop}
theorem dB_neB (h : DeB K W ρ ν ta fun ν1 i => DeB K W ρ ν1 tb fun ν2 j => kb ν2 (!decide (i = j))) : DeB K W ρ ν (tOp rNe ta tb) kb := fun S B σ H Q st q => by
  refine h S B σ H _ st fun _ v H1 x k1 i1 d1 ⟨i, ex, h1⟩ => ?_
  refine h1 S B σ H1 _ (st.keep k1 i1) fun _ w H2 y k2 i2 d2 ⟨j, ey, hΦ⟩ => ?_
  subst ex ey; cases d1; cases d2
  refine ⟨rfl, ?_⟩
  rw [dec_vb]
  exact q _ _ _ _ (k1.trans k2) i2 (.bl _) ⟨_, rfl, hΦ⟩
theorem dB_eqB (h : DeB K W ρ ν ta fun ν1 i => DeB K W ρ ν1 tb fun ν2 j => kb ν2 (decide (i = j))) : DeB K W ρ ν (tOp rEq ta tb) kb := fun S B σ H Q st q => by
  refine h S B σ H _ st fun _ v H1 x k1 i1 d1 ⟨i, ex, h1⟩ => ?_
  refine h1 S B σ H1 _ (st.keep k1 i1) fun _ w H2 y k2 i2 d2 ⟨j, ey, hΦ⟩ => ?_
  subst ex ey; cases d1; cases d2
  refine ⟨rfl, ?_⟩
  rw [dec_vb]
  exact q _ _ _ _ (k1.trans k2) i2 (.bl _) ⟨_, rfl, hΦ⟩
theorem dt_truI {Χ : Nat → Bool → Prop} (h : DeI K W ρ ν ta fun ν1 i => Χ ν1 (i != 0)) : Dt K W ρ ν (tTru K ta) Χ := fun S B σ H Q st q => by
  refine h S B σ H _ st fun _ v H1 x k1 i1 d1 ⟨i, ex, h1⟩ => ?_
  subst ex; cases d1
  exact ⟨_, rfl, q _ _ _ k1 i1 h1⟩
theorem dt_truL {Χ : Nat → Bool → Prop} (h : DeL K W ρ ν ta fun ν1 xs => Χ ν1 (!xs.isEmpty)) : Dt K W ρ ν (tTru K ta) Χ := fun S B σ H Q st q => by
  refine h S B σ H _ st fun _ v H1 x k1 i1 d1 ⟨xs, ex, h1⟩ => ?_
  subst ex
  cases d1 with
  | lst e ds =>
    refine ⟨_, .inl ⟨_, .inl (.inl (of_hid e).1), rfl⟩, q _ _ _ k1 i1 ?_⟩
    have hl := ds.len
    cases xs with
    | nil => cases ds; exact h1
    | cons x xs => cases ds; exact h1
theorem dt_truO {i : Nat} {a : Addr} {xs : List PyData} {Χ : Nat → Bool → Prop} (ho : ρ[i]? = some (.own a xs)) (h : Χ ν (!xs.isEmpty)) : Dt K W ρ ν (tTru K (tVar i)) Χ := dt_peek i ho (dt_truL (dL_var (by rw [List.getElem?_set_self (lt_of_at ho)]) h))
theorem do_sorted {Ψ : Nat → List PyData → Prop} (h : DeL K W ρ ν te fun ν1 xs => ∃ ns : List Int, xs = ns.map .int ∧ ns.length < 64 ∧ ∀ zs : List Int, zs.Perm ns → zs.Pairwise (· ≤ ·) → Ψ ν1 (zs.map .int)) : Do K W ρ ν (tCB (rSorted K) (tCons te tNil)) Ψ := fun S B σ H Q st q => by
  refine h S B σ H _ st fun _ v H1 x k1 i1 d1 ⟨xs, ex, ns, exs, hl, hΨ⟩ => ?_
  subst ex exs
  have st1 := st.keep k1 i1
  cases d1 with
  | lst e ds =>
    cases ds.ints_eq
    refine ⟨_, ns, rfl, .inl (.inl (of_hid e).1), hl, fun zs p pm pw np => ?_⟩
    have f := st1.fresh np
    exact q _ _ _ _ _ (k1.trans (st1.new np).1) (st1.new np).2 (k1.none f.2.2 np) upd_same (.ints zs) (hΨ zs pm pw)
theorem do_sortedO {Ψ : Nat → List PyData → Prop} {i : Nat} {a : Addr} {ns : List Int} (ho : ρ[i]? = some (.own a (ns.map .int))) (hl : ns.length < 64) (h : ∀ zs : List Int, zs.Perm ns → zs.Pairwise (· ≤ ·) → Ψ ν (zs.map .int)) : Do K W ρ ν (tCB (rSorted K) (tCons (tVar i) tNil)) Ψ := fun S B σ H Q st q => by
  obtain ⟨u, eu, e1, vs, e2, d⟩ := st.sl i _ ho
  subst e1
  cases d.ints_eq
  refine ⟨_, eu, a, ns, rfl, .inl (.inl e2), hl, fun zs p pm pw np => ?_⟩
  have f := st.fresh np
  exact q _ _ _ _ _ (st.new np).1 (st.new np).2 np upd_same (.ints zs) (h zs pm pw)
theorem do_sset {w : World} {Ψ : Nat → List PyData → Prop} (h : DeL K W ρ ν te fun ν1 xs => ∃ ns : List Int, xs = ns.map .int ∧ ns.length < 64 ∧ ∀ zs : List Int, zs.Pairwise (· < ·) → (∀ k : Int, k ∈ zs ↔ decide (k ∈ ns) = true) → Ψ ν1 (zs.map .int)) : Do K W ρ ν (tCB (rSortedSet w) (tCons (tCB (rSetOfL K w) (tCons te tNil)) tNil)) Ψ := fun S B σ H Q st q => by
  refine h S B σ H _ st fun _ v H1 x k1 i1 d1 ⟨xs, ex, ns, exs, hl, hΨ⟩ => ?_
  subst ex exs
  have st1 := st.keep k1 i1
  cases d1 with
  | lst e ds =>
    cases ds.ints_eq
    refine ⟨_, ns, rfl, .inl (.inl (of_hid e).1), by omega, fun p1 c np hc => ?_⟩
    have f1 := st1.fresh np
    have n1 := st1.new (o := SetO w p1 (fun j => decide (j ∈ ns)) c) np
    have k2 := k1.trans n1.1
    have st2 := st.keep k2 n1.2
    refine ⟨p1, _, c, rfl, upd_same, by omega, fun zs p rise mem hlen np2 => ?_⟩
    have f := st2.fresh np2
    exact q _ _ _ _ _ (k2.trans (st2.new np2).1) (st2.new np2).2 (k2.none f.2.2 np2) upd_same (.ints zs) (hΨ zs rise mem)
theorem dI_minL (h : DeL K W ρ ν te fun ν1 xs => ∃ ns : List Int, xs = ns.map .int ∧ 0 < ns.length ∧ ∀ m, m ∈ ns → (∀ y, y ∈ ns → m ≤ y) → k ν1 m) : DeI K W ρ ν (tCB (rMin K) (tCons te tNil)) k := de_minL (De.imp h fun _ x ⟨xs, e, ns, e', p, q⟩ => ⟨ns, by rw [e, e'], p, fun m h1 h2 => ⟨m, rfl, q m h1 h2⟩⟩)
theorem dB_anyI (h : DeL K W ρ ν te fun ν1 xs => ∃ ns : List Int, xs = ns.map .int ∧ kb ν1 (ns.any fun i => i != 0)) : DeB K W ρ ν (tCB (rAnyI K) (tCons te tNil)) kb := fun S B σ H Q st q => by
  refine h S B σ H _ st fun _ v H1 x k1 i1 d1 ⟨xs, ex, ns, exs, hk⟩ => ?_
  subst ex exs
  cases d1 with
  | lst e ds =>
    cases ds.ints_eq
    exact ⟨_, ns, rfl, .inl (.inl (of_hid e).1), q _ _ _ _ k1 i1 (.bl _) ⟨_, rfl, hk⟩⟩
theorem dI_sumT (h : DeT K W ρ ν te fun ν1 xs => ∃ ns : List Int, xs = ns.map .int ∧ k ν1 ns.sum) : DeI K W ρ ν (tCB (rSumT K) (tCons te tNil)) k := de_sumT (De.imp h fun _ x ⟨xs, e, ns, e', p⟩ => ⟨ns, by rw [e, e'], _, rfl, p⟩)
theorem dI_indexL (h : DeL K W ρ ν te fun ν1 xs => ∃ ns : List Int, xs = ns.map .int ∧ DeI K W ρ ν1 tb fun ν2 x => ∃ j : Nat, ns[j]? = some x ∧ (∀ i, i < j → ns[i]? ≠ some x) ∧ k ν2 (j : Int)) : DeI K W ρ ν (tBM K "list" (rIndex K) te (tCons tb tNil)) k := fun S B σ H Q st q => by
  refine h S B σ H _ st fun _ v H1 x k1 i1 d1 ⟨xs, ex, ns, exs, h1⟩ => ?_
  subst ex exs
  have st1 := st.keep k1 i1
  cases d1 with
  | lst e ds =>
    cases ds.ints_eq
    refine ⟨.inl ⟨rfl, _, .inl (.inl (of_hid e).1)⟩, h1 S B σ H1 _ st1 fun _ w H2 y k2 i2 d2 ⟨x, ey, j, hj, hf, hk⟩ => ?_⟩
    subst ey
    cases d2
    have e2 := (st1.kpS k2) _ _ e
    refine ⟨_, _, _, j, .int x, rfl, rfl, .inl (.inl (of_hid e2).1), rfl, flat_ints ns, by rw [List.getElem?_map, hj]; rfl, by simp [eqV], fun m z' hm hz => ?_, q _ _ _ _ (k1.trans k2) i2 (.int _) ⟨_, rfl, hk⟩⟩
    rw [List.getElem?_map] at hz
    cases c : ns[m]? with
    | none => rw [c] at hz; cases hz
    | some u =>
      rw [c] at hz
      cases hz
      have : u ≠ x := fun z => hf m hm (by rw [c, z])
      simp [eqV, this]
end
theorem first_at {x : Int} : ∀ {ns : List Int}, x ∈ ns → ∃ j : Nat, ns[j]? = some x ∧ ∀ i, i < j → ns[i]? ≠ some x
  | y :: ns, h => by
    by_cases e : y = x
    · exact ⟨0, by rw [e]; rfl, fun i hi => absurd hi (Nat.not_lt_zero _)⟩
    · obtain ⟨j, h1, h2⟩ := first_at (List.mem_of_ne_of_mem (fun z => e z.symm) h)
      refine ⟨j + 1, h1, fun i hi => ?_⟩
      cases i with
      | zero => intro z; exact e (Option.some.inj z)
      | succ i => exact h2 i (by omega)
end Bd
namespace Bd
open PySem PySem.Spec PyProof.Rows L2 HT
section
variable {K : PySem.W.Frag} {W : Wd} {ρ : List Sl} {ν : Nat} {ta tb : TE} {kb : Nat → Bool → Prop}
theorem dB_isB (h : DeB K W ρ ν ta fun ν1 a => DeB K W ρ ν1 tb fun ν2 b => kb ν2 (decide (a = b))) : DeB K W ρ ν (tOp (fun x y H Q => ∃ a b, x = V.bl a ∧ y = V.bl b ∧ Q (.bl (decide (a = b))) H) ta tb) kb := fun S B σ H Q st q => by
  refine h S B σ H _ st fun _ v H1 x k1 i1 d1 ⟨i, ex, h1⟩ => ?_
  refine h1 S B σ H1 _ (st.keep k1 i1) fun _ w H2 y k2 i2 d2 ⟨j, ey, hΦ⟩ => ?_
  subst ex ey; cases d1; cases d2
  exact ⟨i, j, rfl, rfl, q _ _ _ _ (k1.trans k2) i2 (.bl _) ⟨_, rfl, hΦ⟩⟩
end
theorem zipD_map {α β : Type} (f : α → PyData) (g : β → PyData) : ∀ (xs : List α) (ys : List β), zipD (xs.map f) (ys.map g) = (xs.zip ys).map fun p => .tuple [f p.1, g p.2]
  | [], _ => by simp [zipD]
  | _ :: _, [] => by simp [zipD]
  | x :: xs, y :: ys => by
    have := zipD_map f g xs ys
    unfold zipD at this ⊢
    simp only [List.map_cons, List.zipWith_cons_cons, List.zip_cons_cons, this]
theorem zip_get {α β : Type} {xs : List α} {ys : List β} {i : Nat} {p : α × β} (h : (xs.zip ys)[i]? = some p) : xs[i]? = some p.1 ∧ ys[i]? = some p.2 := by
  obtain ⟨a, b⟩ := p
  exact List.getElem?_zip_eq_some.mp h
/-- these are numbers, so many and so great at most -/
def Nm (M : Int) (n : Nat) (xs : List PyData) : Prop := ∃ L : List Int, xs = L.map .int ∧ L.length ≤ n ∧ ∀ x ∈ L, -M ≤ x ∧ x ≤ M
section
variable {xs ys : List PyData} {n m : Nat} {M M' : Int}
theorem Nm.app (h : Nm M n xs) (g : Nm M m ys) : Nm M (n + m) (xs ++ ys) := by
  obtain ⟨A, rfl, ha, pa⟩ := h
  obtain ⟨B, rfl, hb, pb⟩ := g
  refine ⟨A ++ B, by rw [List.map_append], by rw [List.length_append]; omega, fun x hx => ?_⟩
  rcases List.mem_append.mp hx with h | h
  · exact pa x h
  · exact pb x h
theorem Nm.cut (h : Nm M n xs) (lo hi : Option Int) : Nm M n (cutD xs lo hi) := by
  obtain ⟨A, rfl, ha, pa⟩ := h
  refine ⟨(A.drop (HT.sIx (A.map PyData.int).length 0 lo)).take (HT.sIx (A.map PyData.int).length (A.map PyData.int).length hi - HT.sIx (A.map PyData.int).length 0 lo), ?_, ?_, fun x hx => pa x (List.mem_of_mem_drop (List.mem_of_mem_take hx))⟩
  · unfold cutD
    rw [List.map_take, List.map_drop]
  · rw [List.length_take, List.length_drop]; omega
theorem Nm.rev (h : Nm M n xs) : Nm M n xs.reverse := by
  obtain ⟨A, rfl, ha, pa⟩ := h
  exact ⟨A.reverse, by rw [List.map_reverse], by rw [List.length_reverse]; exact ha, fun x hx => pa x (List.mem_reverse.mp hx)⟩
theorem Nm.one {x : Int} (h0 : -M ≤ x) (h1 : x ≤ M) : Nm M 1 [.int x] := ⟨[x], rfl, Nat.le_refl _, fun y hy => by rw [List.mem_singleton] at hy; subst hy; exact ⟨h0, h1⟩⟩
theorem Nm.of {L : List Int} (h : ∀ x ∈ L, -M ≤ x ∧ x ≤ M) : Nm M L.length (L.map .int) := ⟨L, rfl, Nat.le_refl _, h⟩
theorem Nm.len (h : Nm M n xs) : xs.length ≤ n := by obtain ⟨A, rfl, ha, _⟩ := h; rw [List.length_map]; exact ha
theorem Nm.two (h : Nm M n xs) (g : Nm M m ys) (hn : n + m ≤ 1000000) : xs.length + ys.length ≤ PySem.sizeLine := by
  have := h.len; have := g.len; unfold PySem.sizeLine; omega
theorem Nm.up (h : Nm M n xs) (hm : n ≤ m) (hM : M ≤ M') : Nm M' m xs := by
  obtain ⟨A, e, ha, pa⟩ := h
  exact ⟨A, e, Nat.le_trans ha hm, fun x hx => ⟨by have := (pa x hx).1; omega, by have := (pa x hx).2; omega⟩⟩
end
end Bd
namespace Bd
open PySem PySem.Spec PyProof.Rows L2 HT
theorem wipeR_len {ρ : List Sl} : ∀ {vs : List Nat}, (wipeR ρ vs).length = ρ.length
  | [] => rfl
  | v :: vs => by
    show ((wipeR ρ vs).set v .un).length = _
    rw [List.length_set, wipeR_len]
theorem wipeR_in {ρ : List Sl} {i : Nat} : ∀ {vs : List Nat}, i ∈ vs → i < ρ.length → (wipeR ρ vs)[i]? = some .un
  | [], h, _ => by cases h
  | v :: vs, h, hl => by
    show ((wipeR ρ vs).set v .un)[i]? = _
    by_cases e : v = i
    · subst e
      rw [List.getElem?_set_self (by rw [wipeR_len]; exact hl)]
    · rw [List.getElem?_set_ne e]
      rcases List.mem_cons.mp h with h | h
      · exact absurd h.symm e
      · exact wipeR_in h hl
/-- some slots forgotten, more of them -/
theorem wipe_on {ρ r : List Sl} {vs : List Nat} (us : List Nat) (hv : (vs.all fun v => nOwn ρ v) = true) (e : wipeR ρ vs = r) (hs : (vs.all fun v => us.contains v) = true) (hn : (us.all fun v => nOwn r v) = true) : (us.all fun v => nOwn ρ v) = true ∧ wipeR ρ us = wipeR r us := by
  refine ⟨List.all_eq_true.mpr fun u hu => ?_, ?_⟩
  · by_cases h : u ∈ vs
    · exact List.all_eq_true.mp hv u h
    · have := List.all_eq_true.mp hn u hu
      rw [← e] at this
      exact nOwn_wipe h this
  · apply List.ext_getElem?
    intro i
    subst e
    by_cases h : i ∈ us
    · by_cases hl : i < ρ.length
      · rw [wipeR_in h hl, wipeR_in h (by rw [wipeR_len]; exact hl)]
      · rw [List.getElem?_eq_none (by rw [wipeR_len]; omega), List.getElem?_eq_none (by rw [wipeR_len, wipeR_len]; omega)]
    · have hv' : i ∉ vs := fun z => h (by simpa using List.all_eq_true.mp hs i z)
      rw [wipeR_at h, wipeR_at h, wipeR_at hv']
end Bd
namespace Bd
open PySem PySem.Spec PyProof.Rows L2 HT
/-! ## words -/
theorem any_invS (i : Str) (ns : List Str) : inV (.str i) (ns.map V.str) = decide (i ∈ ns) := by
  unfold inV
  rw [List.any_map]
  induction ns with
  | nil => rfl
  | cons x xs ih =>
    rw [List.any_cons, ih]
    show ((x : Str) == i || decide (i ∈ xs)) = decide (i ∈ x :: xs)
    by_cases h : i = x
    · subst h; simp
    · have h' : (x == i) = false := by simpa using fun z => h z.symm
      rw [h', Bool.false_or]
      simp [h]
theorem flat_strs (ns : List Str) : (ns.map V.str).all flatV = true := by
  rw [List.all_map, List.all_eq_true]
  intro x _
  rfl
section
variable {K : PySem.W.Frag} {H : Hp}
theorem Dds.strs_eq : ∀ {bs : List Str} {vs : List V}, Dds K H vs (bs.map PyData.str) → vs = bs.map V.str
  | [], _, h => by cases h; rfl
  | b :: bs, _, h => by
    cases h with
    | cons h1 h2 => cases h1; rw [Dds.strs_eq h2]; rfl
end
section
variable {K : PySem.W.Frag} {W : Wd} {ρ : List Sl} {ν : Nat} {ta tb te : TE} {tr : TA} {kb : Nat → Bool → Prop} {Φ : Nat → PyData → Prop}
theorem dB_inS {neg : Bool} (h : De K W ρ ν ta fun ν1 x => De K W ρ ν1 tb fun ν2 y => ∃ (i : Str) (ns : List Str), x = .str i ∧ y = .tuple (ns.map .str) ∧ kb ν2 (if neg then !decide (i ∈ ns) else decide (i ∈ ns))) : DeB K W ρ ν (tOp (rIn K neg) ta tb) kb := fun S B σ H Q st q => by
  refine h S B σ H _ st fun _ v H1 x k1 i1 d1 h1 => ?_
  refine h1 S B σ H1 _ (st.keep k1 i1) fun _ w H2 y k2 i2 d2 ⟨i, ns, ex, ey, hΦ⟩ => ?_
  subst ex; cases d1
  subst ey
  cases d2 with
  | tup e d =>
    refine ⟨_, _, rfl, .inr (same_tup hid_same e), rfl, by rw [d.strs_eq]; exact flat_strs ns, ?_⟩
    rw [d.strs_eq, any_invS]
    exact q _ _ _ _ (k1.trans k2) i2 (.bl _) ⟨_, rfl, hΦ⟩
theorem dB_eqS (h : De K W ρ ν ta fun ν1 x => De K W ρ ν1 tb fun ν2 y => ∃ i j, x = .str i ∧ y = .str j ∧ kb ν2 (decide (i = j))) : DeB K W ρ ν (tOp rEq ta tb) kb := de_eqS (De.imp h fun _ x p => De.imp p fun _ y ⟨i, j, e1, e2, p'⟩ => ⟨i, j, e1, e2, _, rfl, p'⟩)
end
/-! ## sorted, of what rises already -/
def rSortedD (K : PySem.W.Frag) : List V → Hp → VK → Prop := fun vs H Q => ∃ (a : Addr) (xs : List V) (ds : List PyData), vs = [V.ref a] ∧ SqL K H a xs ∧ DpAll K H xs ds ∧ PySem.W.AllAlike ds ∧ PySem.W.Sortable ds ∧ ds.Pairwise (fun a b => PySem.W.dataLe false id a b = true) ∧ (∀ d ∈ ds, d.depth ≤ 10) ∧
  ∀ p, H p = none → Q (.ref p) (upd H p (.lst xs))
theorem each_of {X : Cx} {pins : List (Addr × Obj)} {σ : L2.St} {H : Hp} {s : Shared} (I : L2.Inv X pins σ H s) : ∀ {xs : List V} {us : List Value} {ds : List PyData}, Vals xs us → DpAll X.K H xs ds → PySem.W.EachIs (fun (u : Value) (b : V × PyData) => RelV b.1 u) us (xs.zip ds) ∧ PySem.W.EachIs (fun (u : Value) (b : V × PyData) => ∃ as, Reads s.heap u b.2 as) us (xs.zip ds) ∧ (xs.zip ds).map (·.2) = ds
  | _, _, _, .nil, h => by cases h; exact ⟨.nil, .nil, rfl⟩
  | _, _, _, .cons r t, h => by
    cases h with
    | cons h1 h2 =>
      obtain ⟨e1, e2, e3⟩ := each_of I t h2
      exact ⟨.cons r e1, .cons (Dp.reads I _ _ _ h1 r) e2, by rw [List.zip_cons_cons, List.map_cons, e3]⟩
theorem vals_of_each : ∀ {xs : List V} {ds : List PyData} {us : List Value}, xs.length = ds.length → PySem.W.EachIs (fun (u : Value) (b : V × PyData) => RelV b.1 u) us (xs.zip ds) → Vals xs us
  | [], [], us, _, h => by cases h; exact .nil
  | x :: xs, d :: ds, us, hl, h => by
    rw [List.zip_cons_cons] at h
    cases h with
    | cons h1 h2 => exact .cons h1 (vals_of_each (by simpa using hl) h2)
theorem cr_sortedD {X : Cx} (hu : X.A.units + 64 < cLine) : CallR X (.builtin "sorted") (rSortedD X.K) := by
  intro pins s σ H vs us Q I r h
  obtain ⟨a, xs, ds, rfl, hs, hd, hal, hk, hp, hdep, q⟩ := h
  obtain ⟨its, rv, hl, hz⟩ := I.list hs
  rw [Vals.ref1 r]
  have hlen : xs.length = ds.length := dps_len hd
  obtain ⟨e1, e2, e3⟩ := each_of I rv hd
  have hb : ∀ b ∈ xs.zip ds, b.2 ∈ ds := fun b hb => by
    obtain ⟨x, y⟩ := b
    exact (List.of_mem_zip hb).2
  refine PySem.W.sorted_data hl.isList e1 e2 (by rw [e3]; exact hal) (by rw [e3]; exact hk) (by rw [List.length_zip, ← hlen, Nat.min_self]; exact hz) (fun b hm => ?_) fun out ho eo => ?_
  · have := hdep _ (hb b hm)
    omega
  · have hs : (xs.zip ds).mergeSort (PySem.W.dataLe false fun b : V × PyData => b.2) = xs.zip ds := List.mergeSort_of_pairwise (by
      have : ((xs.zip ds).map (·.2)).Pairwise (fun a b => PySem.W.dataLe false id a b = true) := by rw [e3]; exact hp
      exact List.pairwise_map.mp this)
    rw [hs] at eo
    obtain ⟨ep, he'⟩ := PyProof.Rows.sortedAll_at s.heap its (List.toArray out)
    exact ⟨.ref _, upd H (s.heap.objs.size + 1) (.lst xs), I.laid (t' := s.toks) (fun _ _ => PyProof.Rows.sortedAll_old) (Nat.le_succ _) ⟨hz, out, ep, vals_of_each hlen eo, he'⟩, rfl, q _ (I.hok.fresh (Nat.le_succ _))⟩
theorem do_sortedD {K : PySem.W.Frag} {W : Wd} {ρ : List Sl} {ν : Nat} {te : TE} {Ψ : Nat → List PyData → Prop} (h : DeL K W ρ ν te fun ν1 xs => PySem.W.AllAlike xs ∧ PySem.W.Sortable xs ∧ xs.Pairwise (fun a b => PySem.W.dataLe false id a b = true) ∧ (∀ d ∈ xs, d.depth ≤ 10) ∧ Ψ ν1 xs) : Do K W ρ ν (tCB (rSortedD K) (tCons te tNil)) Ψ := fun S B σ H Q st q => by
  refine h S B σ H _ st fun _ v H1 x k1 i1 d1 ⟨xs, ex, h1, h2, h3, h4, hΨ⟩ => ?_
  subst ex
  have st1 := st.keep k1 i1
  cases d1 with
  | lst e ds =>
    refine ⟨_, _, xs, rfl, .inl (.inl (of_hid e).1), (ds.same hid_same).dp, h1, h2, h3, h4, fun p np => ?_⟩
    have f := st1.fresh np
    exact q _ _ _ _ _ (k1.trans (st1.new np).1) (st1.new np).2 (k1.none f.2.2 np) upd_same (ds.same (hid_new np)) hΨ
/-! ## a def that is handed in -/
structure HeldG (P : Program) (w : World) (K : PySem.W.Frag) (mg : Str → Option Value) (base : Heap) (k : Nat) (f : Addr) (sp : Sp) : Prop where
  ex : ∃ (fd : FuncData) (ps : List Str), FnG P w K mg base k f fd ps sp ∧ PySem.W.keepIn K (.ref f) = true ∧ Binds K fd ps []
def tCallG (i : Nat) (S : Addr → Option Sp) (t : TA) : TE := fun σ H Q => ∃ f sp, σ[i]? = some (some (.ref f)) ∧ S f = some sp ∧ tCall sp [] E0 t σ H Q
section
variable {X : Cx} {k j i : Nat} {x : Str} {S : Addr → Option Sp} {p pos : Pos} {e : Expr} {es : List Expr} {t : TA}
theorem pe_gA (A : ∀ f sp, S f = some sp → HeldG X.prog X.w X.K X.mg X.base k f sp) (hG : X.A.guards = some []) (hr : Room j X.A) (hkj : k ≤ j) (hN : X.N[i]? = some x) (hv : Vis X.env.scope x) (ha : PA X (e :: es) t)
    (hdb : (x == ("__debug__" : Str)) = false := by decide) (hcd : (x == ("__classdict__" : Str)) = false := by decide)
    (he : starEach (e :: es) X.env = (false, eval e X.env) :: starEach es X.env := by rfl) (hpl : (backTo pos (starEach es X.env)).any (·.1) = false := by rfl) : PE X (.Call (.Name x p) (e :: es) [] pos) (tCallG i S t) := by
  refine ⟨fun pins s σ H Q I h => ?_⟩
  obtain ⟨f, sp, hs, hS, ht⟩ := h
  obtain ⟨fd, ps, F, hk, hb⟩ := (A f sp hS).ex
  refine wpAny_Call_Name_kw (thn ((pe_var (pos := p) hN hv hdb hcd).run pins s σ H (fun v H1 => v = .ref f ∧ H1 = H) I ⟨.ref f, hs, rfl, rfl⟩) fun u s1 ⟨v, H1, I1, r1, q1⟩ => ?_)
  obtain ⟨rfl, rfl⟩ := q1
  cases r1
  refine PySem.W.callWith_K (h₀ := X.base) I.ok.mod.kin hk (thn (ha.run pos pins s1 σ _ _ I1 ht) fun us s2 ⟨vs, H2, I2, r, q⟩ => ⟨I2.kIn, ?_⟩) he hpl
  have q : sp (vs ++ []) H2 Q E0 := q
  rw [List.append_nil] at q
  exact run_fnG F hG (hr.mono hkj) hb I2 r q
end
section
variable {K : PySem.W.Frag} {W : Wd} {ρ : List Sl} {ν : Nat} {tr : TA} {Φ : Nat → PyData → Prop}
theorem de_callA {i : Nat} {S0 : Addr → Option Sp} {f : Addr} {sp : Sp} (hj : ρ[i]? = some (.at (.ref f))) (hS : S0 f = some sp) (h : De K W ρ ν (tCall sp [] E0 tr) Φ) : De K W ρ ν (tCallG i S0 tr) Φ := fun S B σ H Q st q => by
  obtain ⟨u, eu, e1⟩ := st.sl i _ hj
  subst e1
  exact ⟨f, sp, eu, hS, h S B σ H Q st q⟩
end
/-- a def that is handed data, and defs behind them -/
def spT {ι : Type} (K : PySem.W.Frag) (arg : ι → List PyData) (fs : ι → List V) (pre : ι → Prop) (post : ι → Sl → Prop) : Sp := fun vs H Q _ => ∃ (i : ι) (S : List Addr) (us : List V), vs = us ++ fs i ∧ (∀ a ∈ S, ∃ o, H a = some o) ∧
  Dds K (hid S H) us (arg i) ∧ pre i ∧ ∀ ν' s v H', post i s → RetOk K Wn S (hid [] H) s v H' ν' → Q v H'
section
variable {ι : Type} {K : PySem.W.Frag} {arg : ι → List PyData} {fs : ι → List V} {pre : ι → Prop} {post : ι → Sl → Prop}
theorem spT_len {n : Nat} {vs : List V} {H : Hp} {Q : VK} {E : XK} (h : spT K arg fs pre post vs H Q E) (hl : ∀ i, (arg i).length + (fs i).length = n) : vs.length = n := by
  obtain ⟨i, S, us, rfl, _, d, _⟩ := h
  rw [List.length_append, d.len, hl i]
theorem ownA_T (xs : List PyData) (js : List V) (n : Nat) : ownA (xs.map .d ++ (js.map .at ++ List.replicate n .un)) = [] := by
  apply List.eq_nil_iff_forall_not_mem.mpr
  intro a h
  obtain ⟨i, ys, e⟩ := mem_ownA.mp h
  have m := List.mem_of_getElem? e
  simp [List.mem_append, List.mem_map, List.mem_replicate] at m
theorem fn_dsT {N : List Str} {vs : List V} {H : Hp} {Q : VK} {E : XK} {t : TS} (ρ0 : ι → List Sl) (h : spT K arg fs pre post vs H Q E)
    (hρ : ∀ i, (arg i).map .d ++ ((fs i).map .at ++ List.replicate (N.length - ((arg i).length + (fs i).length)) .un) = ρ0 i)
    (hd : ∀ i, pre i → Ds K Wn (ρ0 i) 0 t ⟨fun _ _ => post i (.d .none), fun _ s => post i s, fun _ _ => False, fun _ _ => False⟩) :
    t { nx := fun _ H' => Q .non H', rt := Q } (L2.start N vs) H := by
  obtain ⟨i, S, us, rfl, hal, hD, hp, q⟩ := h
  have hl := hD.len
  have e1 : L2.start N (us ++ fs i) = us.map some ++ ((fs i).map some ++ List.replicate (N.length - ((arg i).length + (fs i).length)) none) := by
    unfold L2.start
    rw [List.map_append, List.append_assoc, List.length_append, hl]
  rw [e1]
  have eo := ownA_T (arg i) (fs i) (N.length - ((arg i).length + (fs i).length))
  have al := (AllSl.ds (H := H) hD).app ((AllSl.jss (K := K) (Hh := hid S H) (H := H) (fs i)).app (AllSl.un (N.length - ((arg i).length + (fs i).length))))
  have hd := hd i hp
  rw [← hρ] at hd
  refine hd S (hid [] H) _ H _ ⟨al.1, fun j s e => ?_, fun j k a xs ys e => ?_, fun a ha => ?_, fun a ha => (nomatch ha), ?_, trivial, fun a ha => ?_, fun _ _ h => (nomatch h)⟩ ⟨fun ν' ρ σ H' st h => q ν' _ _ _ h (st.ret .non), fun ν' s v H' r h => q ν' _ _ _ h r, fun _ _ _ _ _ h => h.elim, fun _ _ _ _ _ h => h.elim⟩
  · rw [eo, List.append_nil]; exact al.2 j s e
  · have : a ∈ ownA ((arg i).map .d ++ ((fs i).map .at ++ List.replicate (N.length - ((arg i).length + (fs i).length)) .un)) := mem_ownA.mpr ⟨_, _, e⟩
    rw [eo] at this; cases this
  · rw [eo] at ha; cases ha
  · rw [eo, List.append_nil]; exact fun _ _ h => h
  · obtain ⟨o, e⟩ := hal a ha
    exact .inr ⟨o, hid_of e (by simp)⟩
variable {W : Wd} {ρ : List Sl} {ν : Nat} {Φ : Nat → PyData → Prop}
/-- .. called with four names and two defs -/
theorem de_callT {i1 i2 i3 i4 : Nat} {x1 x2 x3 x4 : PyData} {f1 f2 : V} (e1 : ρ[i1]? = some (.d x1)) (e2 : ρ[i2]? = some (.d x2)) (e3 : ρ[i3]? = some (.d x3)) (e4 : ρ[i4]? = some (.d x4))
    (h : ∃ i, [x1, x2, x3, x4] = arg i ∧ [f1, f2] = fs i ∧ pre i ∧ ∀ s, post i s → ∃ y, s = .d y ∧ Φ ν y) : De K W ρ ν (tCall (spT K arg fs pre post) [] E0 (tCons (tVar i1) (tCons (tVar i2) (tCons (tVar i3) (tCons (tVar i4) (tCons (tC f1) (tCons (tC f2) tNil))))))) Φ := fun S B σ H Q st q => by
  obtain ⟨i, ea, ef, hp, hq⟩ := h
  obtain ⟨v1, g1, d1⟩ := st.slot e1
  obtain ⟨v2, g2, d2⟩ := st.slot e2
  obtain ⟨v3, g3, d3⟩ := st.slot e3
  obtain ⟨v4, g4, d4⟩ := st.slot e4
  refine ⟨v1, g1, v2, g2, v3, g3, v4, g4, ?_⟩
  refine ⟨i, S ++ ownA ρ, [v1, v2, v3, v4], by rw [← ef]; rfl, st.alive, by rw [← ea]; exact .cons d1 (.cons d2 (.cons d3 (.cons d4 .nil))), hp, fun ν' s v H' hs r => ?_⟩
  obtain ⟨y, rfl, hΦ⟩ := hq s hs
  obtain ⟨k2, i2⟩ := kp_of0 st r.1
  exact q ν v H' y k2 i2 r.2.2 hΦ
end
end Bd
namespace Bd
open PySem PySem.Spec PyProof.Rows L2 HT
/-! ## a chain of three -/
def tChain3 (r r' r'' : R2) (ta tb tc td : TE) : TE := fun σ H Q => ta σ H fun x H1 => tb σ H1 fun y H2 => r x y H2 fun z H3 => ∃ k, z = .bl k ∧
  (if k = true then tc σ H3 fun w H4 => r' y w H4 fun z' H5 => ∃ k', z' = .bl k' ∧ (if k' = true then td σ H5 fun u H6 => r'' w u H6 Q else Q (.bl false) H5) else Q (.bl false) H3)
section
variable {X : Cx} {a b c d : Expr} {pos : Pos} {ta tb tc td : TE}
theorem pt_chain3 {op op' op'' : CmpOp} {r r' r'' : R2} (ho : OpR X (compareOp op) r) (ho' : OpR X (compareOp op') r') (ho'' : OpR X (compareOp op'') r'') (ha : PE X a ta) (hb : PE X b tb) (hc : PE X c tc) (hd : PE X d td)
    (hm : lastMarks [op, op', op''] [b, c, d] = false := by with_unfolding_all rfl) : PT X (.Compare a [op, op', op''] [b, c, d] pos) (tTest (tChain3 r r' r'' ta tb tc td)) := by
  refine ⟨fun pins s σ H Q I h => ?_⟩
  refine isTrue_chain (thn (ha.run pins s σ H _ I h) fun v s1 ⟨x, H1, I1, r1, q1⟩ => test_link (thn (hb.run pins s1 σ H1 _ I1 q1) fun u s2 ⟨y, H2, I2, r2, q2⟩ =>
    thn (ho pins s2 σ H2 x y v u _ I2 r1 r2 q2) fun d s3 ⟨z, H3, I3, r3, k, e, q3⟩ => ?_)) hm
  subst e
  cases r3
  refine wpAny_truthy_bool ?_
  cases k with
  | false =>
    obtain ⟨k', e', q'⟩ := q3
    cases e'
    exact ite_ff ⟨H3, I3, q'⟩
  | true =>
    refine ite_tt (test_link (thn (hc.run pins s3 σ H3 _ I3 q3) fun w' s4 ⟨z', H4, I4, r4, q4⟩ => thn (ho' pins s4 σ H4 y z' u w' _ I4 r2 r4 q4) fun d' s5 ⟨z2, H5, I5, r5, k2, e2, q5⟩ => ?_))
    subst e2
    cases r5
    refine wpAny_truthy_bool ?_
    cases k2 with
    | false =>
      obtain ⟨k', e', q'⟩ := q5
      cases e'
      exact ite_ff ⟨H5, I5, q'⟩
    | true =>
      refine ite_tt (test_last (thn (hd.run pins s5 σ H5 _ I5 q5) fun w2 s6 ⟨z6, H6, I6, r6, q6⟩ => thn (ho'' pins s6 σ H6 z' z6 w' w2 _ I6 r4 r6 q6) fun d7 s7 ⟨z7, H7, I7, r7, k7, e7, q7⟩ => ?_))
      subst e7
      cases r7
      exact wpAny_truthy_bool ⟨H7, I7, q7⟩
end
section
variable {K : PySem.W.Frag} {W : Wd} {ρ : List Sl} {ν : Nat} {ta tb tc td : TE} {kb : Nat → Bool → Prop}
theorem dB_chain3 {g g' g'' : Int → Int → Bool}
    (h : DeI K W ρ ν ta fun ν1 i => DeI K W ρ ν1 tb fun ν2 j => (g i j = true → DeI K W ρ ν2 tc fun ν3 l => (g' j l = true → DeI K W ρ ν3 td fun ν4 m => kb ν4 (g'' l m)) ∧ (g' j l = false → kb ν3 false)) ∧ (g i j = false → kb ν2 false)) :
    DeB K W ρ ν (tChain3 (rI0 fun i j => .bl (g i j)) (rI0 fun i j => .bl (g' i j)) (rI0 fun i j => .bl (g'' i j)) ta tb tc td) kb := fun S B σ H Q st q => by
  refine h S B σ H _ st fun _ v H1 x k1 i1 d1 ⟨i, ex, h1⟩ => ?_
  refine h1 S B σ H1 _ (st.keep k1 i1) fun _ w H2 y k2 i2 d2 ⟨j, ey, ht, hf⟩ => ?_
  subst ex ey; cases d1; cases d2
  refine ⟨i, j, rfl, rfl, g i j, rfl, ?_⟩
  have k12 := k1.trans k2
  cases e : g i j with
  | true =>
    refine ht e S B σ H2 _ (st.keep k12 i2) fun _ u H3 z k3 i3 d3 ⟨l, ez, ht', hf'⟩ => ?_
    subst ez; cases d3
    refine ⟨j, l, rfl, rfl, g' j l, rfl, ?_⟩
    have k123 := k12.trans k3
    cases e' : g' j l with
    | true =>
      refine ht' e' S B σ H3 _ (st.keep k123 i3) fun _ u' H4 z' k4 i4 d4 ⟨m, em, hk⟩ => ?_
      subst em; cases d4
      exact ⟨l, m, rfl, rfl, q _ _ _ _ (k123.trans k4) i4 (.bl _) ⟨_, rfl, hk⟩⟩
    | false => exact q _ _ _ _ k123 i3 (.bl _) ⟨_, rfl, hf' e'⟩
  | false => exact q _ _ _ _ k12 i2 (.bl _) ⟨_, rfl, hf e⟩
end
end Bd
namespace Bd
open PySem PySem.Spec PyProof.Rows L2 HT
local macro_rules | `(tactic| walk_at "de1") => `(tactic| (with_reducible first
  | refine dI_var rfl ?_ | refine dI_c ?_ | refine dI_op0 ?_ | refine dI_op ?_ | refine dI_un ?_ | refine dI_ixO rfl ?_ | refine dI_ixT ?_ | refine dI_ixL ?_ | refine dI_if ?_ | refine dI_lenO rfl ?_ | refine dI_lenL ?_ | refine dI_abs ?_ | refine dI_two ?_ | refine dI_intB ?_
  | refine dB_var rfl ?_ | refine dB_c ?_ | refine dB_op0 ?_ | refine dB_eqI ?_ | refine dB_neI ?_ | refine dB_inI ?_ | refine dB_not ?_ | refine dB_and ?_ | refine dB_or ?_ | refine dB_chain ?_ | refine dB_eqD ?_ | refine dB_neD ?_ | refine dB_isi ?_
  | refine dL_var rfl ?_ | refine dL_ixO rfl ?_ | refine dL_ixT ?_ | refine dL_ixL ?_ | refine dL_o ?_
  | refine dT_var rfl ?_ | refine dT_ixL ?_ | refine dT_ixT ?_ | refine dT_tup ?_ | refine dT_slT ?_ | refine dT_catT ?_
  | refine de_var rfl ?_ | refine dX_ixO rfl ?_ | refine dX_ixT ?_ | refine dX_ixL ?_ | refine de_tup ?_ | refine de_c rfl ?_ | refine de_if ?_ | refine Do.de (do_lst ?_) | refine de_catTT ?_ | refine de_slTT ?_
  | refine dI_e (dI_op0 ?_) | refine dI_e (dI_op ?_) | refine dI_e (dI_un ?_) | refine dI_e (dI_lenO rfl ?_) | refine dI_e (dI_lenL ?_) | refine dI_e (dI_abs ?_) | refine dI_e (dI_two ?_) | refine dI_e (dI_intB ?_)
  | refine dB_e (dB_op0 ?_) | refine dB_e (dB_eqI ?_) | refine dB_e (dB_neI ?_) | refine dB_e (dB_inI ?_) | refine dB_e (dB_not ?_) | refine dB_e (dB_and ?_) | refine dB_e (dB_or ?_) | refine dB_e (dB_chain ?_) | refine dB_e (dB_eqD ?_) | refine dB_e (dB_neD ?_)
  | refine dt_tB ?_ | refine dt_tTest ?_ | refine dt_not ?_ | refine dt_and ?_ | refine dt_or ?_ | refine dt_yes ?_
  | refine da_nil ?_ | refine da_cons ?_ | refine dp_no ?_ | refine dp_partI ?_
  | refine di_rngI ?_ | refine di_listL ?_ | refine di_zipL ?_ | refine di_enumL ?_
  | refine do_lck rfl ?_ | refine do_lst ?_ | refine do_catL ?_ | refine do_slLL ?_ | refine do_revL ?_
  | refine dg_nm rfl ?_ | refine dg_name rfl (by simp) ?_ | refine dg_tup rfl ?_ | refine dgs_cons ?_ | refine dgs_nil ?_))
local macro_rules | `(tactic| walk_at "de") => `(tactic| (repeat (first | walk_at "de1" | (refine ⟨_, rfl, ?_⟩))))
local macro_rules | `(tactic| walk_at "nrm") => `(tactic| (try dsimp only [List.set, toD, wipeR, List.map, pairD, beadD, lookD]))

def topS (i : Nat) : Stmt := PySem.Challenge.pw_bothdoors_k70_whole_great_tapes_judged.main.body.getD i (.Pass ⟨0, 0, 0, 0⟩)
abbrev sLawDip : Stmt := topS 20
theorem scLawDip : FnScope ["jug", "many", "found", "mixed"] ["jug", "many"] (defScope sLawDip) := ⟨rfl, rfl, rfl, by decide +kernel, rfl, by decide +kernel, by decide +kernel⟩
abbrev sLawJug : Stmt := topS 19
theorem scLawJug : FnScope ["script", "k", "cell"] ["script", "k"] (defScope sLawJug) := ⟨rfl, rfl, rfl, by decide +kernel, rfl, by decide +kernel, by decide +kernel⟩
/-! ### the jug -/
def JugP (n : Nat) (ns : List Int) : Prop := ∃ x y c : Int, ns = [x, y, c] ∧ 0 ≤ y ∧ y < 2 ^ 130 ∧ 0 ≤ c ∧ c ≤ n
abbrev Wj (G : Hp) (j : Addr) : Wd := (Wg G).add j JugP
/-- a def that is handed the jug first -/
def spJ {ι : Type} (K : PySem.W.Frag) (arg : ι → List PyData) (pre : ι → Nat → Prop) (post : ι → Nat → Nat → Sl → Prop) : Sp := fun vs H Q E => ∃ (G : Hp) (j : Addr), spD K (Wj G j) [.ref j] arg pre post vs H Q E
def lim : Nat := 2 ^ 60
def spDip (K : PySem.W.Frag) : Sp := fun vs H Q _ => ∃ (j : Addr) (ns : List Int) (n : Nat) (m : Int), vs = [.ref j, .int m] ∧ H j = some (.lst (ns.map V.int)) ∧ JugP n ns ∧ n < lim ∧ 0 < m ∧ m < 2 ^ 200 ∧
  ∀ r ms H', 0 ≤ r → r < m → Kp [j] H H' → H' j = some (.lst (ms.map V.int)) → JugP (n + 1) ms → Q (.int r) H'
theorem int_bits {i : Int} {b : Nat} (h : i.natAbs < 2 ^ b) (h0 : 0 < b) : Builtin.Int.intBits i ≤ b := by
  unfold Builtin.Int.intBits
  have := PySem.Flt.log2_lt_of h0 h
  first | omega | (split <;> omega)
section
variable {P : Program} {w : World} {K : PySem.W.Frag} {mg : Str → Option Value} {base : Heap}
theorem ok_dip {f : Addr} {fd : FuncData} (F : Fun K "_law_dip" "_law_dip" sLawDip f fd) : FnG P w K mg base 1 f fd ["jug", "many"] (spDip K) := by
  have sc := scLawDip
  refine fnG_of F scLawDip (fun vs H Q E h => ?_) (fun cdv A outer s H vs Q E hr hg h => ?_)
  · obtain ⟨j, ns, n, m, rfl, _⟩ := h
    rfl
  · obtain ⟨j, ns, n, m, rfl, hH, ⟨x, y, c, rfl, hy0, hy1, hc0, hc1⟩, hn, hm0, hm1, q⟩ := h
    refine ⟨_, (pss_cons (ps_if (pt_cmpR op_gt (pe_ix ix_list (pv 0) pe_int (fun _ _ => rfl)) pe_int (nomark _))
    (pss_cons (ps_set (i := 2) sc.nd rfl (.inl rfl) (pe_op op_mod (pe_ix ix_list (pv 0) pe_int (fun _ _ => rfl)) (pv 1)))
  (pss_cons (ps_asg (pe_op op_fdivW (pe_ix ix_list (pv 0) pe_int (fun _ _ => rfl)) (pv 1)) (pg_sub (pv 0) pe_int set_list))
  (pss_one (ps_ret (pv 2)))))
    pss_nil)
  (pss_cons (ps_asg (pe_op op_add (pe_ix ix_list (pv 0) pe_int (fun _ _ => rfl)) pe_int) (pg_sub (pv 0) pe_int set_list))
  (pss_cons (ps_set (i := 3) sc.nd rfl (.inl rfl) (pe_op op_mod (pe_op op_powW (pe_op op_add (pe_ix ix_list (pv 0) pe_int (fun _ _ => rfl)) (pe_op op_mul pe_int (pe_ix ix_list (pv 0) pe_int (fun _ _ => rfl)))) pe_int) (pe_op op_add (pe_op op_pow pe_int pe_int) pe_int)))
  (pss_cons (ps_set (i := 3) sc.nd rfl (.inl rfl) (pe_op op_mod (pe_op op_powW (pe_op op_add (pv 3) (pe_op op_mul pe_int (pe_ix ix_list (pv 0) pe_int (fun _ _ => rfl)))) pe_int) (pe_op op_add (pe_op op_pow pe_int pe_int) pe_int)))
  (pss_one (ps_ret (pe_op op_mod (pe_op op_fdiv (pv 3) pe_int) (pv 1)))))))), ?_⟩
    have sJ : SqL K H j [.int x, .int y, .int c] := .inl (.inl hH)
    have oj : j ∈ [j] := List.mem_cons_self
    have b0 : ∀ z : Int, 0 ≤ z % m ∧ z % m < m := fun z => ⟨Int.emod_nonneg _ (by omega), Int.emod_lt_of_pos _ hm0⟩
    refine ⟨_, rfl, _, _, _, _, rfl, rfl, sJ, rfl, _, _, rfl, rfl, _, rfl, ite2 (fun e => ?_) (fun e => ?_)⟩
    · -- the great cell's next digit
      refine ⟨_, rfl, _, _, _, _, rfl, rfl, sJ, rfl, _, rfl, _, _, rfl, rfl, hm0, ?_⟩
      refine ⟨_, rfl, _, _, _, _, rfl, rfl, sJ, rfl, _, rfl, _, _, rfl, rfl, wide_div hm0 (b := 200) (by omega) (by decide) (by decide), _, rfl, _, _, _, 0, rfl, rfl, hH, rfl, ?_⟩
      refine ⟨_, rfl, q _ [x / m, y, c] _ (b0 x).1 (b0 x).2 (Kp.refl.wr oj) upd_same ⟨x / m, y, c, rfl, hy0, hy1, hc0, by omega⟩⟩
    · refine ⟨_, rfl, _, _, _, _, rfl, rfl, sJ, rfl, _, _, rfl, rfl, _, rfl, _, _, _, 2, rfl, rfl, hH, rfl, ?_⟩
      have hH1 : (upd H j (.lst [.int x, .int y, .int (c + 1)])) j = some (.lst [.int x, .int y, .int (c + 1)]) := upd_same
      have k1 : Kp [j] H (upd H j (.lst [.int x, .int y, .int (c + 1)])) := Kp.refl.wr oj
      show tSeq _ _ _ _ (upd H j (.lst [.int x, .int y, .int (c + 1)]))
      generalize upd H j (.lst [.int x, .int y, .int (c + 1)]) = H1 at hH1 k1 ⊢
      have sJ1 : SqL K H1 j [.int x, .int y, .int (c + 1)] := .inl (.inl hH1)
      have hcM : c + 1 ≤ 2 ^ 60 := by have : (lim : Int) = 2 ^ 60 := by decide
                                      omega
      have bt1 : (Builtin.Int.intBits (y + 7368787 * (c + 1)) : Int) * 3 ≤ 2 ^ 27 := by
        have : Builtin.Int.intBits (y + 7368787 * (c + 1)) ≤ 140 := int_bits (by omega) (by decide)
        omega
      refine ⟨_, rfl, _, _, _, _, rfl, rfl, sJ1, rfl, _, rfl, _, _, _, _, rfl, rfl, sJ1, rfl, _, _, rfl, rfl, .inl ⟨by decide, by decide⟩, _, _, rfl, rfl, _, _, rfl, rfl, ⟨by decide, bt1⟩, _, _, rfl, rfl, ⟨by decide, by decide, by decide⟩, _, _, rfl, rfl, _, _, rfl, rfl, (by show (0 : Int) < 10 ^ Int.toNat 36 + 67; decide), ?_⟩
      show gName 3 (V.int ((y + 7368787 * (c + 1)) ^ Int.toNat 3 % (10 ^ Int.toNat 36 + 67))) _ _ _
      obtain ⟨z1, ez1, hz1a, hz1b⟩ : ∃ z1 : Int, (y + 7368787 * (c + 1)) ^ Int.toNat 3 % (10 ^ Int.toNat 36 + 67) = z1 ∧ 0 ≤ z1 ∧ z1 < 2 ^ 121 :=
        ⟨_, rfl, Int.emod_nonneg _ (by decide), Int.lt_of_lt_of_le (Int.emod_lt_of_pos _ (by decide)) (by decide)⟩
      rw [ez1]
      have bt2 : (Builtin.Int.intBits (z1 + 15485863 * (c + 1)) : Int) * 5 ≤ 2 ^ 27 := by
        have : Builtin.Int.intBits (z1 + 15485863 * (c + 1)) ≤ 140 := int_bits (by omega) (by decide)
        omega
      refine ⟨_, rfl, _, rfl, _, _, _, _, rfl, rfl, sJ1, rfl, _, _, rfl, rfl, .inl ⟨by decide, by decide⟩, _, _, rfl, rfl, _, _, rfl, rfl, ⟨by decide, bt2⟩, _, _, rfl, rfl, ⟨by decide, by decide, by decide⟩, _, _, rfl, rfl, _, _, rfl, rfl, (by show (0 : Int) < 10 ^ Int.toNat 38 + 133; decide), ?_⟩
      refine ⟨_, rfl, _, _, rfl, rfl, ⟨by decide, by decide⟩, _, rfl, _, _, rfl, rfl, hm0, ?_⟩
      exact q _ [x, y, c + 1] H1 (b0 _).1 (b0 _).2 k1 hH1 ⟨x, y, c + 1, rfl, hy0, hy1, by omega, by omega⟩
def spJug (K : PySem.W.Frag) : Sp := fun vs H Q _ => ∃ (a : Addr) (ns : List Int) (k : Nat), vs = [.ref a, .int k] ∧ SqL K H a (ns.map V.int) ∧ k ≤ 100 ∧
  ∀ p x y H', Same H H' → H p = none → H' p = some (.lst ([x, y, 0].map V.int)) → 0 ≤ y → y < 2 ^ 130 → Q (.ref p) H'
theorem ok_jug {f : Addr} {fd : FuncData} (F : Fun K "_law_jug" "_law_jug" sLawJug f fd) (m_len : mg "len" = none) (m_max : mg "max" = none) : FnG P w K mg base 1 f fd ["script", "k"] (spJug K) := by
  have sc := scLawJug
  refine fnG_of F scLawJug (fun vs H Q E h => ?_) (fun cdv A outer s H vs Q E hr hg h => ?_)
  · obtain ⟨a, ns, k, rfl, _⟩ := h
    rfl
  · obtain ⟨a, ns, k, rfl, hS, hk, q⟩ := h
    refine ⟨_, (pss_cons (ps_set (i := 2) sc.nd rfl (.inl rfl) (pe_ifExp (pt_cmpR op_lt (pv 1) (pe_callB call_len_seq (by rfl) m_len PySem.boot_len (pa_cons (pv 0) pa_nil)) (nomark _)) (pe_ix ix_list (pv 0) (pv 1) (fun _ _ => rfl)) pe_int))
  (pss_one (ps_ret (pe_lst (pa_cons (pe_callB (call_max2 rfl) (by rfl) m_max (by decide +kernel) (pa_cons pe_int (pa_cons (pe_op op_sub (pv 2) (pe_op op_pow pe_int pe_int)) pa_nil))) (pa_cons (pe_op op_add (pe_op op_mul (pe_op op_mod (pv 2) (pe_op op_add (pe_op op_pow pe_int pe_int) pe_int)) pe_int) (pv 1)) (pa_cons pe_int pa_nil))))))), ?_⟩
    have fin : ∀ z : Int, tRet (tLst (tCons (tCB (fun xs H Q => ∃ i j, xs = [V.int i, V.int j] ∧ Q (V.int (if j > i then j else i)) H) (tCons (tC (.int 0)) (tCons (tOp (rI0 fun i j => V.int (i - j)) (tVar 2) (tOp (rI CPow fun i j => .int (i ^ j.toNat)) (tC (.int 10)) (tC (.int 18)))) tNil))) (tCons (tOp (rI0 fun i j => V.int (i + j)) (tOp (rI CMul fun i j => V.int (i * j)) (tOp (rI (fun _ j => 0 < j) fun i j => V.int (i % j)) (tVar 2) (tOp (rI0 fun i j => V.int (i + j)) (tOp (rI CPow fun i j => .int (i ^ j.toNat)) (tC (.int 10)) (tC (.int 34))) (tC (.int 193)))) (tC (.int 64))) (tVar 1)) (tCons (tC (.int 0)) tNil)))) { nx := fun _ H' => Q .non H', rt := Q } [some (.ref a), some (.int k), some (.int z)] H := fun z => by
      refine ⟨_, rfl, _, _, rfl, rfl, ⟨by decide, by decide, by decide⟩, _, _, rfl, rfl, _, _, rfl, ?_⟩
      refine ⟨_, rfl, _, _, rfl, rfl, ⟨by decide, by decide, by decide⟩, _, _, rfl, rfl, _, _, rfl, rfl, (by show (0 : Int) < 10 ^ Int.toNat 34 + 193; decide), _, _, rfl, rfl, .inr ⟨by decide, by decide⟩, _, rfl, _, _, rfl, rfl, (by show (3 : Nat) ≤ sizeLine; decide), fun p np => ?_⟩
      have b0 : 0 ≤ z % (10 ^ Int.toNat 34 + 193) := Int.emod_nonneg _ (by decide)
      have b1 : z % (10 ^ Int.toNat 34 + 193) < 2 ^ 113 := Int.lt_of_lt_of_le (Int.emod_lt_of_pos _ (by decide)) (by decide)
      refine q p (if z - 10 ^ Int.toNat 18 > 0 then z - 10 ^ Int.toNat 18 else 0) (z % (10 ^ Int.toNat 34 + 193) * 64 + k) _ (same_new np) np upd_same ?_ ?_
      · omega
      · omega
    refine ⟨_, rfl, _, rfl, a, ns.map V.int, rfl, .inl hS, _, _, rfl, rfl, _, rfl, ite2 (fun e => ?_) (fun e => ?_)⟩
    · have hk' : k < ns.length := by have := of_decide_eq_true e; rw [List.length_map] at this; omega
      refine ⟨_, rfl, _, rfl, a, _, k, _, rfl, rfl, hS, atI_nat (by rw [List.getElem?_map, List.getElem?_eq_getElem hk']; rfl), fin _⟩
    · exact fin 0
end
section
variable {K : PySem.W.Frag} {G : Hp} {j : Addr} {ρ : List Sl} {ν : Nat} {te : TE} {k : Nat → Int → Prop} {Ψ : Nat → List PyData → Prop}
/-- a draw -/
theorem dI_dip {n : Nat} (hj : ρ[n]? = some (.at (.ref j))) (h : DeI K (Wj G j) ρ ν te fun ν1 m => ν1 < lim ∧ 0 < m ∧ m < 2 ^ 200 ∧ ∀ r, 0 ≤ r → r < m → k (ν1 + 1) r) : DeI K (Wj G j) ρ ν (tCall (spDip K) [] E0 (tCons (tVar n) (tCons te tNil))) k := fun S B σ H Q st q => by
  obtain ⟨u, eu, e1⟩ := st.sl n _ hj
  subst e1
  refine ⟨_, eu, h S B σ H _ st fun ν1 v H1 x k1 i1 d1 ⟨m, ex, hn, h0, h1, hk⟩ => ?_⟩
  subst ex; cases d1
  have i1' : True ∧ ∃ ns : List Int, H1 j = some (.lst (ns.map V.int)) ∧ JugP ν1 ns := i1
  obtain ⟨_, ns, e2, hJ⟩ := i1'
  refine ⟨j, ns, ν1, m, rfl, e2, hJ, hn, h0, h1, fun r ms H2 r0 r1 k2 e3 hJ2 => ?_⟩
  exact q (ν1 + 1) _ H2 _ (k1.trans k2) ⟨trivial, ms, e3, hJ2⟩ (.int r) ⟨r, rfl, hk r r0 r1⟩
theorem do_jug {n : Nat} {a : Addr} {ns : List Int} (hj : ρ[n]? = some (.at (.ref a))) (hG : SqL K G a (ns.map V.int)) (h : DeI K (Wg G) ρ ν te fun ν1 i => ∃ m : Nat, i = (m : Int) ∧ m ≤ 100 ∧ ∀ x y, 0 ≤ y → y < 2 ^ 130 → Ψ ν1 ([x, y, 0].map .int)) : Do K (Wg G) ρ ν (tCall (spJug K) [] E0 (tCons (tVar n) (tCons te tNil))) Ψ := fun S B σ H Q st q => by
  obtain ⟨u, eu, e1⟩ := st.sl n _ hj
  subst e1
  refine ⟨_, eu, h S B σ H _ st fun ν1 v H1 x k1 i1 d1 ⟨i, ex, m, ei, hm, hk⟩ => ?_⟩
  subst ex; cases d1; subst ei
  have st1 := st.keep k1 i1
  refine ⟨a, ns, m, rfl, (st1.G.trans hid_same).seq hG, hm, fun p x y H2 s2 np e2 y0 y1 => ?_⟩
  refine q ν1 p H2 _ _ (k1.trans (Kp.same s2)) trivial (k1.none (fun z => nomatch z) np) e2 (Dds.ints [x, y, 0]) (hk x y y0 y1)
/-- how many numbers the script has -/
theorem dI_lenG {n : Nat} {a : Addr} {ns : List Int} {W : Wd} {k : Nat → Int → Prop} (hj : ρ[n]? = some (.at (.ref a))) (hG : SqL K W.G a (ns.map V.int)) (h : k ν (ns.length : Int)) : DeI K W ρ ν (tCB (fun as H Q => ∃ p ys, as = [.ref p] ∧ (SqL K H p ys ∨ SqT K H p ys) ∧ Q (.int ys.length) H) (tCons (tVar n) tNil)) k := fun S B σ H Q st q => by
  obtain ⟨u, eu, e1⟩ := st.sl n _ hj
  subst e1
  refine ⟨_, eu, a, _, rfl, .inl ((st.G.trans hid_same).seq hG), ?_⟩
  rw [List.length_map]
  exact q ν _ H _ Kp.refl st.inv (.int _) ⟨_, rfl, h⟩
theorem de_callJ {ι : Type} {arg : ι → List PyData} {pre : ι → Nat → Prop} {post : ι → Nat → Nat → Sl → Prop} {tr : TA} {Φ : Nat → PyData → Prop} {n : Nat} (hj : ρ[n]? = some (.at (.ref j))) (h : Da K (Wj G j) ρ ν tr fun ν1 xs => ∃ i, xs = arg i ∧ pre i ν1 ∧ ∀ ν2 s, post i ν1 ν2 s → ∃ y, s = .d y ∧ Φ ν2 y) : De K (Wj G j) ρ ν (tCall (spJ K arg pre post) [] E0 (tCons (tVar n) tr)) Φ := de_call (fun vs H Q h => ⟨G, j, h⟩) hj h
theorem do_callJ {ι : Type} {arg : ι → List PyData} {pre : ι → Nat → Prop} {post : ι → Nat → Nat → Sl → Prop} {tr : TA} {n : Nat} (hj : ρ[n]? = some (.at (.ref j))) (h : Da K (Wj G j) ρ ν tr fun ν1 xs => ∃ i, xs = arg i ∧ pre i ν1 ∧ ∀ ν2 s, post i ν1 ν2 s → ∃ a ys, s = .own a ys ∧ Ψ ν2 ys) : Do K (Wj G j) ρ ν (tCall (spJ K arg pre post) [] E0 (tCons (tVar n) tr)) Ψ := do_call (fun vs H Q h => ⟨G, j, h⟩) hj h
end
/-- the law's own def -/
theorem law_run {K : PySem.W.Frag} {N : List Str} {a : Addr} {ns : List Int} {H : Hp} {Q : VK} {t : TS} (hS : SqL K H a (ns.map V.int)) (q : ∀ H', Q (.bl true) H')
    (hd : ∀ G, SqL K G a (ns.map V.int) → Ds K (Wg G) (.at (.ref a) :: List.replicate (N.length - 1) .un) 0 t ⟨fun _ _ => False, fun _ s => s = .d (.bool true), fun _ _ => False, fun _ _ => False⟩) :
    t { nx := fun _ H' => Q .non H', rt := Q } (L2.start N [.ref a]) H := by
  have eo : ownA (.at (.ref a) :: List.replicate (N.length - 1) .un) = [] := ownA_start [.ref a] [] (N.length - 1)
  have al := (AllSl.jss (K := K) (Hh := hid [] H) (H := H) [.ref a]).app (AllSl.un (N.length - 1))
  refine hd H hS [] H _ H _ ⟨al.1, fun j s e => ?_, fun j k b xs ys e => ?_, fun b hb => ?_, fun b hb => (nomatch hb), ?_, trivial, fun b hb => (nomatch hb), fun _ _ h => h⟩ ⟨fun _ _ _ _ _ h => h.elim, fun _ s v H' r h => ?_, fun _ _ _ _ _ h => h.elim, fun _ _ _ _ _ h => h.elim⟩
  · rw [eo]; exact al.2 j s e
  · have : b ∈ ownA (.at (.ref a) :: List.replicate (N.length - 1) .un) := mem_ownA.mpr ⟨_, _, e⟩
    rw [eo] at this; cases this
  · rw [eo] at hb; cases hb
  · rw [eo]; exact fun b o h => hid_of h (by simp [Wg])
  · subst h
    have d : Dd K (hid [] H') v (.bool true) := r.2.2
    cases d
    exact q H'
end Bd
namespace Bd
open PySem PySem.Spec PyProof.Rows L2 HT
local macro_rules | `(tactic| walk_at "de1") => `(tactic| (with_reducible first
  | refine dI_var rfl ?_ | refine dI_c ?_ | refine dI_op0 ?_ | refine dI_op ?_ | refine dI_un ?_ | refine dI_ixO rfl ?_ | refine dI_ixT ?_ | refine dI_ixL ?_ | refine dI_if ?_ | refine dI_lenO rfl ?_ | refine dI_lenL ?_ | refine dI_abs ?_ | refine dI_two ?_ | refine dI_intB ?_
  | refine dB_var rfl ?_ | refine dB_c ?_ | refine dB_op0 ?_ | refine dB_eqI ?_ | refine dB_neI ?_ | refine dB_inI ?_ | refine dB_not ?_ | refine dB_and ?_ | refine dB_or ?_ | refine dB_chain ?_ | refine dB_eqD ?_ | refine dB_neD ?_ | refine dB_isi ?_
  | refine dL_var rfl ?_ | refine dL_ixO rfl ?_ | refine dL_ixT ?_ | refine dL_ixL ?_ | refine dL_o ?_
  | refine dT_var rfl ?_ | refine dT_ixL ?_ | refine dT_ixT ?_ | refine dT_tup ?_ | refine dT_slT ?_ | refine dT_catT ?_
  | refine de_var rfl ?_ | refine dX_ixO rfl ?_ | refine dX_ixT ?_ | refine dX_ixL ?_ | refine de_tup ?_ | refine de_c rfl ?_ | refine de_if ?_ | refine Do.de (do_lst ?_) | refine de_catTT ?_ | refine de_slTT ?_
  | refine dI_e (dI_op0 ?_) | refine dI_e (dI_op ?_) | refine dI_e (dI_un ?_) | refine dI_e (dI_lenO rfl ?_) | refine dI_e (dI_lenL ?_) | refine dI_e (dI_abs ?_) | refine dI_e (dI_two ?_) | refine dI_e (dI_intB ?_)
  | refine dB_e (dB_op0 ?_) | refine dB_e (dB_eqI ?_) | refine dB_e (dB_neI ?_) | refine dB_e (dB_inI ?_) | refine dB_e (dB_not ?_) | refine dB_e (dB_and ?_) | refine dB_e (dB_or ?_) | refine dB_e (dB_chain ?_) | refine dB_e (dB_eqD ?_) | refine dB_e (dB_neD ?_)
  | refine dt_tB ?_ | refine dt_tTest ?_ | refine dt_not ?_ | refine dt_and ?_ | refine dt_or ?_ | refine dt_yes ?_
  | refine da_nil ?_ | refine da_cons ?_ | refine dp_no ?_ | refine dp_partI ?_
  | refine di_rngI ?_ | refine di_listL ?_ | refine di_zipL ?_ | refine di_enumL ?_
  | refine do_lck rfl ?_ | refine do_lst ?_ | refine do_catL ?_ | refine do_slLL ?_ | refine do_revL ?_
  | refine dg_nm rfl ?_ | refine dg_name rfl (by simp) ?_ | refine dg_tup rfl ?_ | refine dgs_cons ?_ | refine dgs_nil ?_))
local macro_rules | `(tactic| walk_at "de") => `(tactic| (repeat (first | walk_at "de1" | (refine ⟨_, rfl, ?_⟩))))
local macro_rules | `(tactic| walk_at "nrm") => `(tactic| (try dsimp only [List.set, toD, wipeR, List.map, pairD, beadD, lookD]))

abbrev sHadAndMet : Stmt := topS 9
theorem scHadAndMet : FnScope ["house", "begin", "tape", "room", "moment", "door", "_"] ["house", "begin", "tape", "room", "moment"] (defScope sHadAndMet) := ⟨rfl, rfl, rfl, by decide +kernel, rfl, by decide +kernel, by decide +kernel⟩
abbrev sLooksAt : Stmt := topS 10
theorem scLooksAt : FnScope ["tape", "room", "moment", "at", "seen", "least", "most"] ["tape", "room", "moment"] (defScope sLooksAt) := ⟨rfl, rfl, rfl, by decide +kernel, rfl, by decide +kernel, by decide +kernel⟩
abbrev sMostOut : Stmt := topS 4
theorem scMostOut : FnScope ["house", "begin", "tape", "room", "moment", "leasts", "least", "_"] ["house", "begin", "tape", "room", "moment"] (defScope sMostOut) := ⟨rfl, rfl, rfl, by decide +kernel, rfl, by decide +kernel, by decide +kernel⟩
abbrev sLeastOut : Stmt := topS 5
theorem scLeastOut : FnScope ["house", "begin", "tape", "room", "moment", "both", "_", "most"] ["house", "begin", "tape", "room", "moment"] (defScope sLeastOut) := ⟨rfl, rfl, rfl, by decide +kernel, rfl, by decide +kernel, by decide +kernel⟩
abbrev sMostBy : Stmt := topS 7
theorem scMostBy : FnScope ["both", "least"] ["both", "least"] (defScope sMostBy) := ⟨rfl, rfl, rfl, by decide +kernel, rfl, by decide +kernel, by decide +kernel⟩
abbrev sLeastBy : Stmt := topS 8
theorem scLeastBy : FnScope ["both", "most"] ["both", "most"] (defScope sLeastBy) := ⟨rfl, rfl, rfl, by decide +kernel, rfl, by decide +kernel, by decide +kernel⟩
def spHad (K : PySem.W.Frag) : Sp := spD K Wn [] Tp.arg (fun t _ => t.Ok) (fun t _ _ s => s = .d (.int (hadMet t.ds t.B t.bs t.r t.m)))
def spLooks (K : PySem.W.Frag) : Sp := spD K Wn [] Lt.arg (fun t _ => t.ls.length ≤ 10000) (fun t _ _ s => ∃ a, s = .own a ((looksAt t.ls t.r t.m).map lookPair))
def spMost (K : PySem.W.Frag) : Sp := spD K Wn [] Tp.arg (fun t _ => t.Ok) (fun t _ _ s => s = .d (.int (mostOut t.ds t.B t.bs t.ls t.r t.m)))
def spLeast (K : PySem.W.Frag) : Sp := spD K Wn [] Tp.arg (fun t _ => t.Ok) (fun t _ _ s => s = .d (.int (leastOut t.ds t.B t.bs t.ls t.r t.m)))
def spMostBy (K : PySem.W.Frag) : Sp := spD (ι := Int × Int) K Wn [] (fun i => [.int i.1, .int i.2]) (fun _ _ => True) (fun i _ _ s => s = .d (.int ((i.1 - i.2) / 2)))
def spLeastBy (K : PySem.W.Frag) : Sp := spD (ι := Int × Int) K Wn [] (fun i => [.int i.1, .int i.2]) (fun _ _ => True) (fun i _ _ s => s = .d (.int ((i.1 - i.2 + 1) / 2)))
section
variable {P : Program} {w : World} {K : PySem.W.Frag} {mg : Str → Option Value} {base : Heap}
theorem ok_had {f : Addr} {fd : FuncData} (F : Fun K "_had_and_met" "_had_and_met" sHadAndMet f fd) (m_len : mg "len" = none) : FnG P w K mg base 1 f fd ["house", "begin", "tape", "room", "moment"] (spHad K) := by
  have sc := scHadAndMet
  refine fnG_of F scHadAndMet (fun vs H Q E h => spD_len h fun i => rfl) (fun cdv A outer s H vs Q E hr hg h => ?_)
  refine ⟨_, (pss_one (ps_ret (pe_op op_add (pe_ix ix_list (pv 1) (pv 3) (fun _ _ => rfl)) (pe_callB call_len_seq (by rfl) m_len PySem.boot_len (pa_cons (pe_lc (own := [("door", 5), ("_", 6)]) (g := gTup K 2 (gCons (gName 5) (gCons (gName 6) gNil)))  (by rfl) sc.nd  (pi_list (pe_slice sl_list (pe_ix ix_tup (pv 2) pe_int (fun _ _ => rfl)) po_none (po_some (pv 4)))) (blkOk_by (own := [("door", 5), ("_", 6)]) (N := ["house", "begin", "tape", "room", "moment", "door", "_"]) (sc := defScope sHadAndMet) (by decide +kernel)) (fun _ _ _ _ _ => (pg_tup (by rfl) (pgs_cons (pg_name (i := 5) sc.nd rfl (.inl rfl)) (pgs_cons (pg_name (i := 6) sc.nd rfl (.inl rfl)) pgs_nil)))) (fun _ _ _ _ _ => (pts_one (pt_cmpR (opK (rIn K false) op_in_seq) (pv 3) (pe_ix (ixK (rIxL K) ix_list) (pe_ix (ixK (rIxT K) ix_tup) (pv 0) pe_int (fun _ _ => rfl)) (pv 5) (fun _ _ => rfl)) rfl))) (fun _ _ _ _ _ => (pv 5))) pa_nil))))), ?_⟩
  dsimp only [cxOf, L2.Cx.nox]
  refine fn_ds (fun t => [.d (houseD t.rooms t.ds), .d (intsD t.B), .d (tapeD t.bs t.ls), .d (.int t.r), .d (.int t.m), .un, .un]) h (fun i => rfl) fun t ν ok => ?_
  refine ds_ret ?_
  walk_at "de"
  refine ⟨_, atD_ints (by rw [ok.lB]; exact ok.hr), ?_⟩
  walk_at "de"
  rw [cutD_take, ← List.map_take]
  refine lcF beadD (t.bs.take t.m) (atDoor t.ds t.r) (fun b => .int b.1) (small_take ok.lb) rfl (fun b hb => ?_) ?_
  · walk_at "nrm"
    walk_at "de"
    obtain ⟨d, ed⟩ : ∃ d, t.ds[b.1]? = some d := ⟨_, List.getElem?_eq_getElem (ok.beads b (List.mem_of_mem_take hb))⟩
    refine ⟨_, atD_map ed, [d.1, d.2], .inr rfl, rfl, door_in ed t.r, fun _ => ?_⟩
    walk_at "de"
    exact ⟨rfl, rfl⟩
  · show Sl.d _ = Sl.d _
    rw [List.length_map]
    rfl
theorem ok_looks {f : Addr} {fd : FuncData} (F : Fun K "_looks_at" "_looks_at" sLooksAt f fd) : FnG P w K mg base 1 f fd ["tape", "room", "moment"] (spLooks K) := by
  have sc := scLooksAt
  refine fnG_of F scLooksAt (fun vs H Q E h => spD_len h fun i => rfl) (fun cdv A outer s H vs Q E hr hg h => ?_)
  refine ⟨_, (pss_one (ps_ret (pe_lc (own := [("at", 3), ("seen", 4), ("least", 5), ("most", 6)]) (g := gTup K 4 (gCons (gName 3) (gCons (gName 4) (gCons (gName 5) (gCons (gName 6) gNil)))))  (by rfl) sc.nd  (pi_list (pe_ix ix_tup (pv 0) pe_int (fun _ _ => rfl))) (blkOk_by (own := [("at", 3), ("seen", 4), ("least", 5), ("most", 6)]) (N := ["tape", "room", "moment", "at", "seen", "least", "most"]) (sc := defScope sLooksAt) (by decide +kernel)) (fun _ _ _ _ _ => (pg_tup (by rfl) (pgs_cons (pg_name (i := 3) sc.nd rfl (.inl rfl)) (pgs_cons (pg_name (i := 4) sc.nd rfl (.inl rfl)) (pgs_cons (pg_name (i := 5) sc.nd rfl (.inl rfl)) (pgs_cons (pg_name (i := 6) sc.nd rfl (.inl rfl)) pgs_nil)))))) (fun _ _ _ _ _ => (pts_one (PW.pt (pw_and (pt_cmpR op_eq (pv 3) (pv 2) (nomark _)) (pw_and1 (pt_cmpR op_eq (pv 4) (pv 1) (nomark _))))))) (fun _ _ _ _ _ => (pe_tup (pa_cons (pv 5) (pa_cons (pv 6) pa_nil))))))), ?_⟩
  dsimp only [cxOf, L2.Cx.nox]
  refine fn_ds (fun t => [.d (tapeD t.bs t.ls), .d (.int t.r), .d (.int t.m), .un, .un, .un, .un]) h (fun i => rfl) fun t ν ok => ?_
  refine ds_retO ?_
  walk_at "de"
  refine lcF lookD t.ls (lookAt t.r t.m) lookPair (small_of ok (by decide)) rfl (fun b hb => ?_) fun a => ⟨a, rfl⟩
  walk_at "nrm"
  walk_at "de"
  refine ⟨fun e => ?_, fun e => ?_⟩
  · walk_at "de"
    refine ⟨rfl, by unfold lookAt; rw [e]; rfl, fun _ => ?_⟩
    walk_at "de"
    exact ⟨(show (2 : Nat) ≤ sizeLine by decide), rfl, rfl⟩
  · refine ⟨rfl, by unfold lookAt; rw [e]; rfl, fun z => ?_⟩
    unfold lookAt at z; rw [e] at z; cases z
theorem ok_mostBy {f : Addr} {fd : FuncData} (F : Fun K "_most_by" "_most_by" sMostBy f fd) : FnG P w K mg base 1 f fd ["both", "least"] (spMostBy K) := by
  have sc := scMostBy
  refine fnG_of F scMostBy (fun vs H Q E h => spD_len h fun i => rfl) (fun cdv A outer s H vs Q E hr hg h => ?_)
  refine ⟨_, (pss_one (ps_ret (pe_op op_fdiv (pe_op op_sub (pv 0) (pv 1)) pe_int))), ?_⟩
  refine fn_ds (fun i => [.d (.int i.1), .d (.int i.2)]) h (fun i => rfl) fun t ν ok => ?_
  refine ds_ret ?_
  walk_at "de"
  refine ⟨⟨by decide, by decide⟩, rfl⟩
theorem ok_leastBy {f : Addr} {fd : FuncData} (F : Fun K "_least_by" "_least_by" sLeastBy f fd) : FnG P w K mg base 1 f fd ["both", "most"] (spLeastBy K) := by
  have sc := scLeastBy
  refine fnG_of F scLeastBy (fun vs H Q E h => spD_len h fun i => rfl) (fun cdv A outer s H vs Q E hr hg h => ?_)
  refine ⟨_, (pss_one (ps_ret (pe_op op_fdiv (pe_op op_add (pe_op op_sub (pv 0) (pv 1)) pe_int) pe_int))), ?_⟩
  refine fn_ds (fun i => [.d (.int i.1), .d (.int i.2)]) h (fun i => rfl) fun t ν ok => ?_
  refine ds_ret ?_
  walk_at "de"
  refine ⟨⟨by decide, by decide⟩, rfl⟩
theorem ok_most {f : Addr} {fd : FuncData} (F : Fun K "most_out" "most_out" sMostOut f fd) (cal_looks_at : Cg P w K mg base 1 "_looks_at" (spLooks K)) (cal_had_and_met : Cg P w K mg base 1 "_had_and_met" (spHad K)) (cal_most_by : Cg P w K mg base 1 "_most_by" (spMostBy K)) (m_max : mg "max" = none) : FnG P w K mg base 2 f fd ["house", "begin", "tape", "room", "moment"] (spMost K) := by
  have sc := scMostOut
  refine fnG_of F scMostOut (fun vs H Q E h => spD_len h fun i => rfl) (fun cdv A outer s H vs Q E hr hg h => ?_)
  refine ⟨_, (pss_cons (ps_if (pt_cmpR op_eq (pv 4) pe_int (nomark _))
    (pss_one (ps_ret pe_int))
    pss_nil)
  (pss_cons (ps_setLc (i := 5) (own := [("least", 6), ("_", 7)]) (g := gTup K 2 (gCons (gName 6) (gCons (gName 7) gNil))) (tt := tYes) (by rfl) sc.nd rfl rfl (sw_true rfl rfl rfl (by decide +kernel)) (pi_list (pe_g cal_looks_at hg hr (by first | decide | exact Nat.le_refl _ | omega) (by rfl) (pa_cons (pv 2) (pa_cons (pv 3) (pa_cons (pv 4) pa_nil))))) (blkOk_by (own := [("least", 6), ("_", 7)]) (N := ["house", "begin", "tape", "room", "moment", "leasts", "least", "_"]) (sc := defScope sMostOut) (by decide +kernel)) (fun _ _ _ _ _ => (pg_tup (by rfl) (pgs_cons (pg_name (i := 6) sc.nd rfl (.inl rfl)) (pgs_cons (pg_name (i := 7) sc.nd rfl (.inl rfl)) pgs_nil)))) (fun _ _ _ _ _ => pts_nil) (fun _ _ _ _ _ => (pv 6)))
  (pss_one (ps_ret (pe_g cal_most_by hg hr (by first | decide | exact Nat.le_refl _ | omega) (by rfl) (pa_cons (pe_g cal_had_and_met hg hr (by first | decide | exact Nat.le_refl _ | omega) (by rfl) (pa_cons (pv 0) (pa_cons (pv 1) (pa_cons (pv 2) (pa_cons (pv 3) (pa_cons (pv 4) pa_nil)))))) (pa_cons (pe_callB (cr_max rfl) (by rfl) m_max (by decide +kernel) (pa_cons (pe_op op_cat (pe_lst (pa_cons pe_int pa_nil)) (pv 5)) pa_nil)) pa_nil))))))), ?_⟩
  dsimp only [cxOf, L2.Cx.nox]
  refine fn_ds (fun t => [.d (houseD t.rooms t.ds), .d (intsD t.B), .d (tapeD t.bs t.ls), .d (.int t.r), .d (.int t.m), .un, .un, .un]) h (fun i => rfl) fun t ν ok => ?_
  refine ds_seq (ds_if ?_)
  walk_at "de"
  refine ⟨fun e => ds_ret ?_, fun e => ds_next ?_⟩
  · walk_at "de"
    have e' : t.m = 0 := by have := of_decide_eq_true e; omega
    show Sl.d _ = Sl.d _
    unfold mostOut
    rw [if_pos e']
    rfl
  · have e' : t.m ≠ 0 := by have := of_decide_eq_false e; omega
    refine ds_seq (ds_set rfl (Do.de (do_lck rfl (di_listL (dL_o (do_call0 ?_))))))
    walk_at "de"
    refine ⟨⟨t.bs, t.ls, t.r, t.m⟩, rfl, ok.ll, fun ν2 s hs => ?_⟩
    obtain ⟨a, rfl⟩ := hs
    refine ⟨a, _, rfl, ?_⟩
    refine lcM lookPair (looksAt t.ls t.r t.m) (fun l => .int l.2.2.1) (small_of (looksAt_small ok.ll) (by decide)) rfl (fun l hl => ?_) ?_
    · walk_at "nrm"
      unfold lookPair
      walk_at "de"
      exact ⟨rfl, rfl⟩
    have sl := looksAt_small (r := t.r) (m := t.m) ok.ll
    rw [show ((looksAt t.ls t.r t.m).map fun l => PyData.int l.2.2.1) = ((looksAt t.ls t.r t.m).map fun l => l.2.2.1).map .int from by rw [List.map_map]; rfl]
    walk_at "nrm"
    refine ds_ret (de_call0 (da_cons (dI_e (dI_call0 ?_))))
    walk_at "de"
    refine ⟨ok, fun ν2 s hs => ⟨_, hs, ?_⟩⟩
    refine da_cons (dI_e (dI_maxL (dL_o (do_catL ?_))))
    walk_at "de"
    refine ⟨szd rfl, ?_⟩
    walk_at "de"
    refine ⟨by rw [List.length_map, List.length_map]; show 1 + _ ≤ sizeLine; unfold sizeLine; omega, 0 :: (looksAt t.ls t.r t.m).map (fun l => l.2.2.1), rfl, by simp, fun m h1 h2 => ?_⟩
    have em := top0_is h1 h2
    subst em
    walk_at "de"
    refine ⟨(_, _), rfl, trivial, fun n s hs => ⟨_, hs, ?_⟩⟩
    show Sl.d _ = Sl.d _
    unfold mostOut
    rw [if_neg e']
    rfl
theorem ok_least {f : Addr} {fd : FuncData} (F : Fun K "least_out" "least_out" sLeastOut f fd) (cal_looks_at : Cg P w K mg base 1 "_looks_at" (spLooks K)) (cal_had_and_met : Cg P w K mg base 1 "_had_and_met" (spHad K)) (cal_least_by : Cg P w K mg base 1 "_least_by" (spLeastBy K)) (m_max : mg "max" = none) : FnG P w K mg base 2 f fd ["house", "begin", "tape", "room", "moment"] (spLeast K) := by
  have sc := scLeastOut
  refine fnG_of F scLeastOut (fun vs H Q E h => spD_len h fun i => rfl) (fun cdv A outer s H vs Q E hr hg h => ?_)
  refine ⟨_, (pss_cons (ps_if (pt_cmpR op_eq (pv 4) pe_int (nomark _))
    (pss_one (ps_ret pe_int))
    pss_nil)
  (pss_cons (ps_set (i := 5) sc.nd rfl (.inr rfl) (pe_g cal_had_and_met hg hr (by first | decide | exact Nat.le_refl _ | omega) (by rfl) (pa_cons (pv 0) (pa_cons (pv 1) (pa_cons (pv 2) (pa_cons (pv 3) (pa_cons (pv 4) pa_nil)))))))
  (pss_one (ps_ret (pe_callB (cr_max rfl) (by rfl) m_max (by decide +kernel) (pa_cons (pe_op op_cat (pe_lst (pa_cons pe_int pa_nil)) (pe_lc (own := [("_", 6), ("most", 7)]) (g := gTup K 2 (gCons (gName 6) (gCons (gName 7) gNil))) (tt := tYes) (by rfl) sc.nd  (pi_list (pe_g cal_looks_at hg hr (by first | decide | exact Nat.le_refl _ | omega) (by rfl) (pa_cons (pv 2) (pa_cons (pv 3) (pa_cons (pv 4) pa_nil))))) (blkOk_by (own := [("_", 6), ("most", 7)]) (N := ["house", "begin", "tape", "room", "moment", "both", "_", "most"]) (sc := defScope sLeastOut) (by decide +kernel)) (fun _ _ _ _ _ => (pg_tup (by rfl) (pgs_cons (pg_name (i := 6) sc.nd rfl (.inl rfl)) (pgs_cons (pg_name (i := 7) sc.nd rfl (.inl rfl)) pgs_nil)))) (fun _ _ _ _ _ => pts_nil) (fun _ _ _ _ _ => (pe_g cal_least_by hg hr (by first | decide | exact Nat.le_refl _ | omega) (by rfl) (pa_cons (pv 5) (pa_cons (pv 7) pa_nil)))))) pa_nil)))))), ?_⟩
  dsimp only [cxOf, L2.Cx.nox]
  refine fn_ds (fun t => [.d (houseD t.rooms t.ds), .d (intsD t.B), .d (tapeD t.bs t.ls), .d (.int t.r), .d (.int t.m), .un, .un, .un]) h (fun i => rfl) fun t ν ok => ?_
  refine ds_seq (ds_if ?_)
  walk_at "de"
  refine ⟨fun e => ds_ret ?_, fun e => ds_next ?_⟩
  · walk_at "de"
    have e' : t.m = 0 := by have := of_decide_eq_true e; omega
    show Sl.d _ = Sl.d _
    unfold leastOut
    rw [if_pos e']
    rfl
  · have e' : t.m ≠ 0 := by have := of_decide_eq_false e; omega
    refine ds_seq (ds_set rfl (dI_e (dI_call0 ?_)))
    walk_at "de"
    refine ⟨ok, fun ν2 s hs => ⟨_, hs, ?_⟩⟩
    walk_at "nrm"
    refine ds_ret (dI_e (dI_maxL (dL_o (do_catL ?_))))
    walk_at "de"
    refine ⟨(show (1 : Nat) ≤ sizeLine by decide), ?_⟩
    refine dL_o (do_lck rfl (di_listL (dL_o (do_call0 ?_))))
    walk_at "de"
    refine ⟨⟨t.bs, t.ls, t.r, t.m⟩, rfl, ok.ll, fun ν2 s hs => ?_⟩
    obtain ⟨a, rfl⟩ := hs
    refine ⟨a, _, rfl, ?_⟩
    refine lcM lookPair (looksAt t.ls t.r t.m) (fun l => .int ((hadMet t.ds t.B t.bs t.r t.m - l.2.2.2 + 1) / 2)) (small_of (looksAt_small ok.ll) (by decide)) rfl (fun l hl => ?_) ?_
    · walk_at "nrm"
      unfold lookPair
      refine dg_tup rfl ?_
      walk_at "de"
      refine de_call0 ?_
      walk_at "de"
      exact ⟨(_, _), rfl, trivial, fun n s hs => ⟨_, hs, rfl, rfl⟩⟩
    · have sl := looksAt_small (r := t.r) (m := t.m) ok.ll
      refine ⟨by rw [List.length_map]; show 1 + _ ≤ sizeLine; unfold sizeLine; omega, 0 :: (looksAt t.ls t.r t.m).map (fun l => (hadMet t.ds t.B t.bs t.r t.m - l.2.2.2 + 1) / 2), by rw [List.map_cons, List.map_map]; rfl, by simp, fun m h1 h2 => ?_⟩
      have em := top0_is h1 h2
      subst em
      show Sl.d _ = Sl.d _
      unfold leastOut
      rw [if_neg e']
end
end Bd
namespace Bd
open PySem PySem.Spec PyProof.Rows L2 HT
local macro_rules | `(tactic| walk_at "de1") => `(tactic| (with_reducible first
  | refine dI_var rfl ?_ | refine dI_c ?_ | refine dI_op0 ?_ | refine dI_op ?_ | refine dI_un ?_ | refine dI_ixO rfl ?_ | refine dI_ixT ?_ | refine dI_ixL ?_ | refine dI_if ?_ | refine dI_lenO rfl ?_ | refine dI_lenL ?_ | refine dI_abs ?_ | refine dI_two ?_ | refine dI_intB ?_
  | refine dB_var rfl ?_ | refine dB_c ?_ | refine dB_op0 ?_ | refine dB_eqI ?_ | refine dB_neI ?_ | refine dB_inI ?_ | refine dB_not ?_ | refine dB_and ?_ | refine dB_or ?_ | refine dB_chain ?_ | refine dB_eqD ?_ | refine dB_neD ?_ | refine dB_isi ?_
  | refine dL_var rfl ?_ | refine dL_ixO rfl ?_ | refine dL_ixT ?_ | refine dL_ixL ?_ | refine dL_o ?_
  | refine dT_var rfl ?_ | refine dT_ixL ?_ | refine dT_ixT ?_ | refine dT_tup ?_ | refine dT_slT ?_ | refine dT_catT ?_
  | refine de_var rfl ?_ | refine dX_ixO rfl ?_ | refine dX_ixT ?_ | refine dX_ixL ?_ | refine de_tup ?_ | refine de_c rfl ?_ | refine de_if ?_ | refine Do.de (do_lst ?_) | refine de_catTT ?_ | refine de_slTT ?_
  | refine dI_e (dI_op0 ?_) | refine dI_e (dI_op ?_) | refine dI_e (dI_un ?_) | refine dI_e (dI_lenO rfl ?_) | refine dI_e (dI_lenL ?_) | refine dI_e (dI_abs ?_) | refine dI_e (dI_two ?_) | refine dI_e (dI_intB ?_)
  | refine dB_e (dB_op0 ?_) | refine dB_e (dB_eqI ?_) | refine dB_e (dB_neI ?_) | refine dB_e (dB_inI ?_) | refine dB_e (dB_not ?_) | refine dB_e (dB_and ?_) | refine dB_e (dB_or ?_) | refine dB_e (dB_chain ?_) | refine dB_e (dB_eqD ?_) | refine dB_e (dB_neD ?_)
  | refine dt_tB ?_ | refine dt_tTest ?_ | refine dt_not ?_ | refine dt_and ?_ | refine dt_or ?_ | refine dt_yes ?_
  | refine da_nil ?_ | refine da_cons ?_ | refine dp_no ?_ | refine dp_partI ?_
  | refine di_rngI ?_ | refine di_listL ?_ | refine di_zipL ?_ | refine di_enumL ?_
  | refine do_lck rfl ?_ | refine do_lst ?_ | refine do_catL ?_ | refine do_slLL ?_ | refine do_revL ?_
  | refine dg_nm rfl ?_ | refine dg_name rfl (by simp) ?_ | refine dg_tup rfl ?_ | refine dgs_cons ?_ | refine dgs_nil ?_))
local macro_rules | `(tactic| walk_at "de") => `(tactic| (repeat (first | walk_at "de1" | (refine ⟨_, rfl, ?_⟩))))
local macro_rules | `(tactic| walk_at "nrm") => `(tactic| (try dsimp only [List.set, toD, wipeR, List.map, pairD, beadD, lookD]))

local macro_rules | `(tactic| walk_at "dj") => `(tactic| (repeat (first | walk_at "de1" | (refine ⟨_, rfl, ?_⟩) | (refine dI_dip rfl ?_) | (refine dI_e (dI_dip rfl ?_)) | (refine ⟨by omega, by omega, by omega, fun r h0 h1 => ?_⟩) | (refine ⟨szd rfl, ?_⟩) | (refine ⟨(⟨by decide, by decide, by decide⟩ : CPow _ _), ?_⟩))))

abbrev sLawHouse : Stmt := topS 21
theorem scLawHouse : FnScope ["jug", "most", "more", "rooms", "doors", "k", "one"] ["jug", "most", "more"] (defScope sLawHouse) := ⟨rfl, rfl, rfl, by decide +kernel, rfl, by decide +kernel, by decide +kernel⟩
def spHouse (K : PySem.W.Frag) : Sp := spJ (ι := Nat × Nat) K (fun i => [.int (i.1 : Int), .int (i.2 : Int)]) (fun i n => 2 ≤ i.1 ∧ i.1 ≤ 10 ∧ 2 ≤ i.2 ∧ i.2 ≤ 25 ∧ n + 100 ≤ lim) (fun i n n' s => n' ≤ n + 100 ∧ ∃ rooms ds, s = .d (houseD rooms ds) ∧ 0 < rooms ∧ rooms ≤ i.1 ∧ ds.length < i.2 ∧ Doors rooms ds)
theorem next_of {o g : Int} {r : Nat} (h0 : 0 ≤ o) (h1 : o < r) (g0 : 0 ≤ g) (g1 : g < (r : Int) - 1) : 0 ≤ (o + 1 + g) % r ∧ (o + 1 + g) % r < r ∧ (o + 1 + g) % r ≠ o := by
  have hr : (0 : Int) < r := by omega
  have a0 := Int.emod_nonneg (o + 1 + g) (show (r : Int) ≠ 0 by omega)
  have a1 := Int.emod_lt_of_pos (o + 1 + g) hr
  refine ⟨a0, a1, fun z => ?_⟩
  by_cases c : o + 1 + g < r
  · rw [Int.emod_eq_of_lt (by omega) c] at z; omega
  · have e : (o + 1 + g) % r = (o + 1 + g - r) % r := by rw [Int.sub_emod_right]
    rw [e, Int.emod_eq_of_lt (by omega) (by omega)] at z; omega
section
variable {P : Program} {w : World} {K : PySem.W.Frag} {mg : Str → Option Value} {base : Heap}
theorem ok_house {f : Addr} {fd : FuncData} (F : Fun K "_law_house" "_law_house" sLawHouse f fd) (cal_law_dip : Cg P w K mg base 1 "_law_dip" (spDip K)) (m_range : mg "range" = none) (m_int : mg "int" = none) : FnG P w K mg base 2 f fd ["jug", "most", "more"] (spHouse K) := by
  have sc := scLawHouse
  refine fnG_of F scLawHouse (fun vs H Q E h => by obtain ⟨G, j, h⟩ := h; exact spD_len h fun i => rfl) (fun cdv A outer s H vs Q E hr hg h => ?_)
  obtain ⟨G, j, h⟩ := h
  refine ⟨_, (pss_cons (ps_set (i := 3) sc.nd rfl (.inl rfl) (pe_ix ix_list (pe_lst (pa_cons (pe_op op_add pe_int (pe_g cal_law_dip hg hr (by first | decide | exact Nat.le_refl _ | omega) (by rfl) (pa_cons (pv 0) (pa_cons (pv 1) pa_nil)))) (pa_cons (pe_op op_add pe_int (pe_g cal_law_dip hg hr (by first | decide | exact Nat.le_refl _ | omega) (by rfl) (pa_cons (pv 0) (pa_cons (pe_op op_sub (pv 1) pe_int) pa_nil)))) pa_nil))) (pe_callTy call_int1 (by rfl) m_int (by decide +kernel) (pa_cons (pe_cmpR op_gt (pe_g cal_law_dip hg hr (by first | decide | exact Nat.le_refl _ | omega) (by rfl) (pa_cons (pv 0) (pa_cons pe_int pa_nil))) pe_int (nomark _)) pa_nil)) (fun _ _ => rfl)))
  (pss_cons (ps_set (i := 4) sc.nd rfl (.inl rfl) (pe_lst pa_nil))
  (pss_cons (ps_for PassesOwn.never rfl (pi_range1 (by rfl) m_range (pa_cons (pe_op op_mul (pe_op op_add pe_int (pe_g cal_law_dip hg hr (by first | decide | exact Nat.le_refl _ | omega) (by rfl) (pa_cons (pv 0) (pa_cons (pe_op op_sub (pv 2) pe_int) pa_nil)))) (pe_callTy call_int1 (by rfl) m_int (by decide +kernel) (pa_cons (pe_cmpR op_gt (pv 3) pe_int (nomark _)) pa_nil))) pa_nil)) (pg_name (i := 5) sc.nd rfl (.inl rfl))
    (pss_cons (ps_set (i := 6) sc.nd rfl (.inl rfl) (pe_g cal_law_dip hg hr (by first | decide | exact Nat.le_refl _ | omega) (by rfl) (pa_cons (pv 0) (pa_cons (pv 3) pa_nil))))
  (pss_one (ps_expr (pe_bm PySem.F.plainAttrs_list PySem.F.slot_list_append PySem.F.type_list_append mt_append (pv 4) (pa_cons (pe_tup (pa_cons (pv 6) (pa_cons (pe_op op_mod (pe_op op_add (pe_op op_add (pv 6) pe_int) (pe_g cal_law_dip hg hr (by first | decide | exact Nat.le_refl _ | omega) (by rfl) (pa_cons (pv 0) (pa_cons (pe_op op_sub (pv 3) pe_int) pa_nil)))) (pv 3)) pa_nil))) pa_nil))))))
  (pss_one (ps_ret (pe_tup (pa_cons (pv 3) (pa_cons (pv 4) pa_nil)))))))), ?_⟩
  dsimp only [cxOf, L2.Cx.nox]
  refine fn_ds (fun i => [.at (.ref j), .d (.int (i.1 : Int)), .d (.int (i.2 : Int)), .un, .un, .un, .un]) h (fun i => rfl) fun i ν hp => ?_
  obtain ⟨m, w⟩ := i
  obtain ⟨m0, m1, w0, w1, hn⟩ := hp
  dsimp only at m0 m1 w0 w1 ⊢
  refine ds_seq (ds_set rfl (dI_e ?_))
  walk_at "dj"
  rename_i r1 r1a r1b r2 r2a r2b r3 r3a r3b
  obtain ⟨rooms, er, q0, q1⟩ : ∃ rooms : Nat, atD [.int (1 + r1), .int (2 + r2)] (if decide (0 < r3) = true then 1 else 0) = some (.int (rooms : Int)) ∧ 0 < rooms ∧ rooms ≤ m := by
    by_cases h : 0 < r3
    · exact ⟨(2 + r2).toNat, by rw [if_pos (decide_eq_true h), show (((2 + r2).toNat : Nat) : Int) = 2 + r2 by omega]; rfl, by omega, by omega⟩
    · exact ⟨(1 + r1).toNat, by rw [if_neg (by rw [decide_eq_false h]; decide), show (((1 + r1).toNat : Nat) : Int) = 1 + r1 by omega]; rfl, by omega, by omega⟩
  refine ⟨_, er, ?_⟩
  walk_at "nrm"
  refine ds_seq (ds_setO rfl (by simp) ?_)
  walk_at "dj"
  intro D
  walk_at "nrm"
  refine ds_seq (ds_fork ?_)
  walk_at "dj"
  rename_i r4 r4a r4b
  obtain ⟨n, en, hn1, hn2⟩ : ∃ n : Nat, (1 + r4) * (if decide ((1 : Int) < (rooms : Int)) = true then 1 else 0) = (n : Int) ∧ n < w ∧ (0 < n → 1 < rooms) := by
    by_cases h : (1 : Int) < (rooms : Int)
    · exact ⟨(1 + r4).toNat, by rw [if_pos (decide_eq_true h), Int.mul_one]; omega, by omega, fun _ => by omega⟩
    · exact ⟨0, by rw [if_neg (by rw [decide_eq_false h]; decide), Int.mul_zero]; rfl, by omega, fun h => absurd h (by decide)⟩
  rw [en]
  refine ⟨.inl ⟨by omega, by omega⟩, by omega, by omega, ?_⟩
  rw [Int.toNat_natCast, rngD_map]
  refine forI (fun (i : Nat) => PyData.int (i : Int)) (List.range n) rfl 2 (fun i r => ∃ (ds : List (Nat × Nat)) (x y : Sl), nOwnS x = true ∧ nOwnS y = true ∧ r = [.at (.ref j), .d (.int m), .d (.int w), .d (.int rooms), .own D (ds.map pairD), x, y] ∧ ds.length = i ∧ Doors rooms ds)
    ⟨[], .un, .un, rfl, rfl, rfl, rfl, fun d hd => by cases hd⟩ (fun i a ν1 ρ' ha hν hI => ?_) (fun ν2 ρ' hν hI => ?_)
  · obtain ⟨ds, x, y, nx, ny, rfl, hl, hok⟩ := hI
    rw [List.length_range] at hν
    have hi : i < n := by have := lt_of_at ha; rw [List.length_range] at this; exact this
    have rm : 1 < rooms := hn2 (by omega)
    refine dg_nm (by cases x <;> first | rfl | cases nx) ?_
    walk_at "nrm"
    refine ds_seq (ds_set (by cases y <;> first | rfl | cases ny) ?_)
    walk_at "dj"
    walk_at "nrm"
    rename_i o oa ob
    refine ds_append rfl ?_
    walk_at "dj"
    rename_i p pa pb
    refine ⟨by omega, ?_⟩
    walk_at "dj"
    refine ⟨szL (n := (ds.map pairD).length) (by rw [List.length_map]; omega), ?_⟩
    walk_at "nrm"
    obtain ⟨e1, e2, e3⟩ := next_of (g := p) (r := rooms) oa ob pa (by omega)
    refine ⟨by omega, ds ++ [(o.toNat, ((o + 1 + p) % rooms).toNat)], .d (.int a), .d (.int o), rfl, rfl, ?_, by rw [List.length_append]; show ds.length + 1 = i + 1; omega, fun d hd => ?_⟩
    · rw [List.map_append]
      show _ = [_, _, _, _, Sl.own D (ds.map pairD ++ [.tuple [.int (o.toNat : Nat), .int (((o + 1 + p) % rooms).toNat : Nat)]]), _, _]
      rw [Int.toNat_of_nonneg oa, Int.toNat_of_nonneg e1]
    · rcases List.mem_append.mp hd with h | h
      · exact hok d h
      · rw [List.mem_singleton] at h
        subst h
        refine ⟨by show o.toNat < rooms; omega, by show ((o + 1 + p) % rooms).toNat < rooms; omega, by show o.toNat ≠ ((o + 1 + p) % rooms).toNat; omega⟩
  · obtain ⟨ds, x, y, nx, ny, rfl, hl, hok⟩ := hI
    rw [List.length_range] at hν hl
    refine ds_freeze 4 rfl ?_
    walk_at "nrm"
    refine ds_ret ?_
    walk_at "dj"
    exact ⟨by omega, rooms, ds, rfl, q0, q1, by omega, hok⟩
end
end Bd
namespace Bd
open PySem PySem.Spec PyProof.Rows L2 HT
local macro_rules | `(tactic| walk_at "de1") => `(tactic| (with_reducible first
  | refine dI_var rfl ?_ | refine dI_c ?_ | refine dI_op0 ?_ | refine dI_op ?_ | refine dI_un ?_ | refine dI_ixO rfl ?_ | refine dI_ixT ?_ | refine dI_ixL ?_ | refine dI_if ?_ | refine dI_lenO rfl ?_ | refine dI_lenL ?_ | refine dI_abs ?_ | refine dI_two ?_ | refine dI_intB ?_
  | refine dB_var rfl ?_ | refine dB_c ?_ | refine dB_op0 ?_ | refine dB_eqI ?_ | refine dB_neI ?_ | refine dB_inI ?_ | refine dB_not ?_ | refine dB_and ?_ | refine dB_or ?_ | refine dB_chain ?_ | refine dB_eqD ?_ | refine dB_neD ?_ | refine dB_isi ?_
  | refine dL_var rfl ?_ | refine dL_ixO rfl ?_ | refine dL_ixT ?_ | refine dL_ixL ?_ | refine dL_o ?_
  | refine dT_var rfl ?_ | refine dT_ixL ?_ | refine dT_ixT ?_ | refine dT_tup ?_ | refine dT_slT ?_ | refine dT_catT ?_
  | refine de_var rfl ?_ | refine dX_ixO rfl ?_ | refine dX_ixT ?_ | refine dX_ixL ?_ | refine de_tup ?_ | refine de_c rfl ?_ | refine de_if ?_ | refine Do.de (do_lst ?_) | refine de_catTT ?_ | refine de_slTT ?_
  | refine dI_e (dI_op0 ?_) | refine dI_e (dI_op ?_) | refine dI_e (dI_un ?_) | refine dI_e (dI_lenO rfl ?_) | refine dI_e (dI_lenL ?_) | refine dI_e (dI_abs ?_) | refine dI_e (dI_two ?_) | refine dI_e (dI_intB ?_)
  | refine dB_e (dB_op0 ?_) | refine dB_e (dB_eqI ?_) | refine dB_e (dB_neI ?_) | refine dB_e (dB_inI ?_) | refine dB_e (dB_not ?_) | refine dB_e (dB_and ?_) | refine dB_e (dB_or ?_) | refine dB_e (dB_chain ?_) | refine dB_e (dB_eqD ?_) | refine dB_e (dB_neD ?_)
  | refine dt_tB ?_ | refine dt_tTest ?_ | refine dt_not ?_ | refine dt_and ?_ | refine dt_or ?_ | refine dt_yes ?_
  | refine da_nil ?_ | refine da_cons ?_ | refine dp_no ?_ | refine dp_partI ?_
  | refine di_rngI ?_ | refine di_listL ?_ | refine di_zipL ?_ | refine di_enumL ?_
  | refine do_lck rfl ?_ | refine do_lst ?_ | refine do_catL ?_ | refine do_slLL ?_ | refine do_revL ?_
  | refine dg_nm rfl ?_ | refine dg_name rfl (by simp) ?_ | refine dg_tup rfl ?_ | refine dgs_cons ?_ | refine dgs_nil ?_))
local macro_rules | `(tactic| walk_at "de") => `(tactic| (repeat (first | walk_at "de1" | (refine ⟨_, rfl, ?_⟩))))
local macro_rules | `(tactic| walk_at "nrm") => `(tactic| (try dsimp only [List.set, toD, wipeR, List.map, pairD, beadD, lookD]))

local macro_rules | `(tactic| walk_at "dj") => `(tactic| (repeat (first | walk_at "de1" | (refine ⟨_, rfl, ?_⟩) | (refine dI_dip rfl ?_) | (refine dI_e (dI_dip rfl ?_)) | (refine ⟨by omega, by omega, by omega, fun r h0 h1 => ?_⟩) | (refine ⟨szd rfl, ?_⟩) | (refine ⟨(⟨by decide, by decide, by decide⟩ : CPow _ _), ?_⟩))))

abbrev sLawFolk : Stmt := topS 22
theorem scLawFolk : FnScope ["jug", "home", "few", "spot"] ["jug", "home"] (defScope sLawFolk) := ⟨rfl, rfl, rfl, by decide +kernel, rfl, by decide +kernel, by decide +kernel⟩
structure Hs where
  rooms : Nat
  ds : List (Nat × Nat)
def spFolk (K : PySem.W.Frag) : Sp := spJ (ι := Hs) K (fun i => [houseD i.rooms i.ds]) (fun i n => i.rooms ≤ 10 ∧ n + 20 ≤ lim) (fun i n n' s => n' ≤ n + 20 ∧ ∃ B : List Int, s = .d (intsD B) ∧ B.length = i.rooms ∧ ∀ x ∈ B, 0 ≤ x ∧ x ≤ 10 ^ 18)
section
variable {P : Program} {w : World} {K : PySem.W.Frag} {mg : Str → Option Value} {base : Heap}
theorem ok_folk {f : Addr} {fd : FuncData} (F : Fun K "_law_folk" "_law_folk" sLawFolk f fd) (cal_law_dip : Cg P w K mg base 1 "_law_dip" (spDip K)) (m_range : mg "range" = none) : FnG P w K mg base 2 f fd ["jug", "home"] (spFolk K) := by
  have sc := scLawFolk
  refine fnG_of F scLawFolk (fun vs H Q E h => by obtain ⟨G, j, h⟩ := h; exact spD_len h fun i => rfl) (fun cdv A outer s H vs Q E hr hg h => ?_)
  obtain ⟨G, j, h⟩ := h
  refine ⟨_, (pss_cons (ps_set (i := 2) sc.nd rfl (.inr rfl) (pe_ix ix_list (pe_lst (pa_cons pe_int (pa_cons pe_int (pa_cons pe_int (pa_cons pe_int (pa_cons (pe_op op_pow pe_int pe_int) pa_nil)))))) (pe_g cal_law_dip hg hr (by first | decide | exact Nat.le_refl _ | omega) (by rfl) (pa_cons (pv 0) (pa_cons pe_int pa_nil))) (fun _ _ => rfl)))
  (pss_one (ps_ret (pe_lc (own := [("spot", 3)]) (g := gName 3) (tt := tYes) (by rfl) sc.nd  (pi_range1 (by rfl) m_range (pa_cons (pe_ix ix_tup (pv 1) pe_int (fun _ _ => rfl)) pa_nil)) (blkOk_by (own := [("spot", 3)]) (N := ["jug", "home", "few", "spot"]) (sc := defScope sLawFolk) (by decide +kernel)) (fun _ _ _ _ _ => (pg_name (i := 3) sc.nd rfl (.inl rfl))) (fun _ _ _ _ _ => pts_nil) (fun _ _ _ _ _ => (pe_g cal_law_dip hg hr (by first | decide | exact Nat.le_refl _ | omega) (by rfl) (pa_cons (pv 0) (pa_cons (pe_op op_add (pv 2) pe_int) pa_nil)))))))), ?_⟩
  dsimp only [cxOf, L2.Cx.nox]
  refine fn_ds (fun i => [.at (.ref j), .d (houseD i.rooms i.ds), .un, .un]) h (fun i => rfl) fun i ν hp => ?_
  obtain ⟨rooms, ds⟩ := i
  obtain ⟨hr10, hn⟩ := hp
  dsimp only at hr10 ⊢
  refine ds_seq (ds_set rfl (dI_e ?_))
  walk_at "dj"
  rename_i r ra rb
  obtain ⟨few, ef, f0, f1⟩ : ∃ c : Int, atD [.int 1, .int 2, .int 2, .int 4, .int (10 ^ Int.toNat 18)] r = some (.int c) ∧ 0 ≤ c ∧ c ≤ 10 ^ 18 := by
    rcases (by omega : r = 0 ∨ r = 1 ∨ r = 2 ∨ r = 3 ∨ r = 4) with rfl | rfl | rfl | rfl | rfl
    · exact ⟨1, rfl, by decide, by decide⟩
    · exact ⟨2, rfl, by decide, by decide⟩
    · exact ⟨2, rfl, by decide, by decide⟩
    · exact ⟨4, rfl, by decide, by decide⟩
    · exact ⟨10 ^ 18, rfl, by decide, by decide⟩
  refine ⟨_, ef, ?_⟩
  walk_at "nrm"
  refine ds_ret (Do.de (do_lck rfl (di_rngI ?_)))
  walk_at "dj"
  refine ⟨by omega, by omega, ?_⟩
  rw [Int.toNat_natCast, rngD_map]
  refine lcP (fun (i : Nat) => PyData.int (i : Int)) (List.range rooms) (fun a y => ∃ x : Int, y = .int x ∧ 0 ≤ x ∧ x ≤ 10 ^ 18) 1 (szL (by rw [List.length_range]; omega)) rfl (fun a ha ν1 hν => ?_) (fun ν2 ys hν hl hy => ?_)
  · rw [List.length_range] at hν
    walk_at "nrm"
    walk_at "dj"
    exact ⟨by omega, _, rfl, by omega, by omega⟩
  · rw [List.length_range] at hν hl
    have : ∃ B : List Int, ys = B.map .int ∧ ∀ x ∈ B, 0 ≤ x ∧ x ≤ 10 ^ 18 := by
      refine ints_of fun y hy' => ?_
      obtain ⟨k, hk⟩ := List.getElem?_of_mem hy'
      have hk' := lt_of_at hk
      exact hy k k y (List.getElem?_range (by omega)) hk
    obtain ⟨B, rfl, hB⟩ := this
    rw [List.length_map] at hl
    exact ⟨by omega, B, rfl, hl, hB⟩
end
end Bd
namespace Bd
open PySem PySem.Spec PyProof.Rows L2 HT
local macro_rules | `(tactic| walk_at "de1") => `(tactic| (with_reducible first
  | refine dI_var rfl ?_ | refine dI_c ?_ | refine dI_op0 ?_ | refine dI_op ?_ | refine dI_un ?_ | refine dI_ixO rfl ?_ | refine dI_ixT ?_ | refine dI_ixL ?_ | refine dI_if ?_ | refine dI_lenO rfl ?_ | refine dI_lenL ?_ | refine dI_abs ?_ | refine dI_two ?_ | refine dI_intB ?_
  | refine dB_var rfl ?_ | refine dB_c ?_ | refine dB_op0 ?_ | refine dB_eqI ?_ | refine dB_neI ?_ | refine dB_inI ?_ | refine dB_not ?_ | refine dB_and ?_ | refine dB_or ?_ | refine dB_chain ?_ | refine dB_eqD ?_ | refine dB_neD ?_ | refine dB_isi ?_
  | refine dL_var rfl ?_ | refine dL_ixO rfl ?_ | refine dL_ixT ?_ | refine dL_ixL ?_ | refine dL_o ?_
  | refine dT_var rfl ?_ | refine dT_ixL ?_ | refine dT_ixT ?_ | refine dT_tup ?_ | refine dT_slT ?_ | refine dT_catT ?_
  | refine de_var rfl ?_ | refine dX_ixO rfl ?_ | refine dX_ixT ?_ | refine dX_ixL ?_ | refine de_tup ?_ | refine de_c rfl ?_ | refine de_if ?_ | refine Do.de (do_lst ?_) | refine de_catTT ?_ | refine de_slTT ?_
  | refine dI_e (dI_op0 ?_) | refine dI_e (dI_op ?_) | refine dI_e (dI_un ?_) | refine dI_e (dI_lenO rfl ?_) | refine dI_e (dI_lenL ?_) | refine dI_e (dI_abs ?_) | refine dI_e (dI_two ?_) | refine dI_e (dI_intB ?_)
  | refine dB_e (dB_op0 ?_) | refine dB_e (dB_eqI ?_) | refine dB_e (dB_neI ?_) | refine dB_e (dB_inI ?_) | refine dB_e (dB_not ?_) | refine dB_e (dB_and ?_) | refine dB_e (dB_or ?_) | refine dB_e (dB_chain ?_) | refine dB_e (dB_eqD ?_) | refine dB_e (dB_neD ?_)
  | refine dt_tB ?_ | refine dt_tTest ?_ | refine dt_not ?_ | refine dt_and ?_ | refine dt_or ?_ | refine dt_yes ?_
  | refine da_nil ?_ | refine da_cons ?_ | refine dp_no ?_ | refine dp_partI ?_
  | refine di_rngI ?_ | refine di_listL ?_ | refine di_zipL ?_ | refine di_enumL ?_
  | refine do_lck rfl ?_ | refine do_lst ?_ | refine do_catL ?_ | refine do_slLL ?_ | refine do_revL ?_
  | refine dg_nm rfl ?_ | refine dg_name rfl (by simp) ?_ | refine dg_tup rfl ?_ | refine dgs_cons ?_ | refine dgs_nil ?_))
local macro_rules | `(tactic| walk_at "de") => `(tactic| (repeat (first | walk_at "de1" | (refine ⟨_, rfl, ?_⟩))))
local macro_rules | `(tactic| walk_at "nrm") => `(tactic| (try dsimp only [List.set, toD, wipeR, List.map, pairD, beadD, lookD]))

local macro_rules | `(tactic| walk_at "dj") => `(tactic| (repeat (first | walk_at "de1" | (refine ⟨_, rfl, ?_⟩) | (refine dI_dip rfl ?_) | (refine dI_e (dI_dip rfl ?_)) | (refine ⟨by omega, by omega, by omega, fun r h0 h1 => ?_⟩) | (refine ⟨szd rfl, ?_⟩) | (refine ⟨(⟨by decide, by decide, by decide⟩ : CPow _ _), ?_⟩))))

structure Gs where
  rooms : Nat
  ds : List (Nat × Nat)
  B : List Int
  many : Nat
def Row (rooms : Nat) (M : Int) (F : List Int) : Prop := F.length = rooms ∧ ∀ x ∈ F, 0 ≤ x ∧ x ≤ M
theorem Row.up {rooms : Nat} {M M' : Int} {F : List Int} (h : Row rooms M F) (hm : M ≤ M') : Row rooms M' F := ⟨h.1, fun x hx => ⟨(h.2 x hx).1, Int.le_trans (h.2 x hx).2 hm⟩⟩
theorem Row.set {rooms : Nat} {M : Int} {F : List Int} {i : Nat} {v : Int} (h : Row rooms M F) (h0 : 0 ≤ v) (h1 : v ≤ M) : Row rooms M (F.set i v) := ⟨by rw [List.length_set]; exact h.1, set_all h.2 ⟨h0, h1⟩⟩
theorem Row.get {rooms : Nat} {M : Int} {F : List Int} (h : Row rooms M F) {i : Nat} (hi : i < rooms) : F[i]? = some (F.getD i 0) ∧ 0 ≤ F.getD i 0 ∧ F.getD i 0 ≤ M := by
  have hi' : i < F.length := by rw [h.1]; exact hi
  have e : F[i]? = some F[i] := List.getElem?_eq_getElem hi'
  rw [List.getD_eq_getElem?_getD, e]
  exact ⟨rfl, h.2 _ (List.getElem_mem _)⟩
/-- goings of a house -/
def Moves (D : Nat) (mv : List Bead) : Prop := ∀ b ∈ mv, b.1 < D ∧ 0 ≤ b.2 ∧ b.2 ≤ 1
theorem side_of {s : Int} (h0 : 0 ≤ s) (h1 : s ≤ 1) (d : Nat × Nat) : ∃ r : Nat, atD [.int d.1, .int d.2] s = some (.int (r : Int)) ∧ (r = d.1 ∨ r = d.2) := by
  rcases (by omega : s = 0 ∨ s = 1) with rfl | rfl
  · exact ⟨d.1, rfl, .inl rfl⟩
  · exact ⟨d.2, rfl, .inr rfl⟩
abbrev sLawGone : Stmt := topS 23
theorem scLawGone : FnScope ["jug", "home", "start", "most", "here", "moves", "rows", "k", "door", "side", "pair"] ["jug", "home", "start", "most"] (defScope sLawGone) := ⟨rfl, rfl, rfl, by decide +kernel, rfl, by decide +kernel, by decide +kernel⟩
def spGone (K : PySem.W.Frag) : Sp := spJ (ι := Gs) K (fun i => [houseD i.rooms i.ds, intsD i.B, .int (i.many : Int)]) (fun i n => i.many ≤ 400 ∧ Doors i.rooms i.ds ∧ i.ds.length ≤ 100 ∧ Row i.rooms (10 ^ 18) i.B ∧ n + 2000 ≤ lim)
  (fun i n n' s => n' ≤ n + 2000 ∧ ∃ (mv : List Bead) (R : List (List Int)), s = .d (.tuple [.list (mv.map beadD), .list (R.map intsD)]) ∧ mv.length ≤ i.many ∧ Moves i.ds.length mv ∧ R.length = mv.length + 1 ∧ ∀ F ∈ R, Row i.rooms (10 ^ 18 + 400) F)
section
variable {P : Program} {w : World} {K : PySem.W.Frag} {mg : Str → Option Value} {base : Heap}
theorem ok_gone {f : Addr} {fd : FuncData} (F : Fun K "_law_gone" "_law_gone" sLawGone f fd) (cal_law_dip : Cg P w K mg base 1 "_law_dip" (spDip K)) (m_range : mg "range" = none) (m_int : mg "int" = none) (m_list : mg "list" = none) (m_len : mg "len" = none) : FnG P w K mg base 2 f fd ["jug", "home", "start", "most"] (spGone K) := by
  have sc := scLawGone
  refine fnG_of F scLawGone (fun vs H Q E h => by obtain ⟨G, j, h⟩ := h; exact spD_len h fun i => rfl) (fun cdv A outer s H vs Q E hr hg h => ?_)
  obtain ⟨G, j, h⟩ := h
  refine ⟨_, (pss_cons (ps_set (i := 4) sc.nd rfl (.inl rfl) (pe_callTy call_list_of (by rfl) m_list (by decide +kernel) (pa_cons (pv 2) pa_nil)))
  (pss_cons (ps_set (i := 5) sc.nd rfl (.inl rfl) (pe_lst pa_nil))
  (pss_cons (ps_set (i := 6) sc.nd rfl (.inl rfl) (pe_lst (pa_cons (pe_callTy call_list_of (by rfl) m_list (by decide +kernel) (pa_cons (pv 2) pa_nil)) pa_nil)))
  (pss_cons (ps_for PassesOwn.never rfl (pi_range1 (by rfl) m_range (pa_cons (pe_op op_mul (pe_g cal_law_dip hg hr (by first | decide | exact Nat.le_refl _ | omega) (by rfl) (pa_cons (pv 0) (pa_cons (pe_op op_add (pv 3) pe_int) pa_nil))) (pe_callTy call_int1 (by rfl) m_int (by decide +kernel) (pa_cons (pe_cmpR (op_neD hr.units) (pe_ix ix_tup (pv 1) pe_int (fun _ _ => rfl)) (pe_lst pa_nil) (nomark _)) pa_nil))) pa_nil)) (pg_name (i := 7) sc.nd rfl (.inl rfl))
    (pss_cons (ps_par (i := 8) (j := 9) (by rfl) sc.nd rfl rfl (by decide) rfl rfl (pa_cons (pe_g cal_law_dip hg hr (by first | decide | exact Nat.le_refl _ | omega) (by rfl) (pa_cons (pv 0) (pa_cons (pe_callB call_len_seq (by rfl) m_len PySem.boot_len (pa_cons (pe_ix ix_tup (pv 1) pe_int (fun _ _ => rfl)) pa_nil)) pa_nil))) (pa_cons (pe_g cal_law_dip hg hr (by first | decide | exact Nat.le_refl _ | omega) (by rfl) (pa_cons (pv 0) (pa_cons pe_int pa_nil))) pa_nil)) (by rfl))
  (pss_cons (ps_set (i := 10) sc.nd rfl (.inl rfl) (pe_ix ix_list (pe_ix ix_tup (pv 1) pe_int (fun _ _ => rfl)) (pv 8) (fun _ _ => rfl)))
  (pss_mid (ps_if (pt_cmpR op_eq (pe_ix ix_list (pv 4) (pe_ix ix_tup (pv 10) (pv 9) (fun _ _ => rfl)) (fun _ _ => rfl)) pe_int (nomark _))
    (pss_one (ps_set (i := 9) sc.nd rfl (.inl rfl) (pe_op op_sub pe_int (pv 9))))
    pss_nil)
  (pss_one (ps_if (pt_cmpR op_gt (pe_ix ix_list (pv 4) (pe_ix ix_tup (pv 10) (pv 9) (fun _ _ => rfl)) (fun _ _ => rfl)) pe_int (nomark _))
    (pss_cons (ps_asg (pe_op op_sub (pe_ix ix_list (pv 4) (pe_ix ix_tup (pv 10) (pv 9) (fun _ _ => rfl)) (fun _ _ => rfl)) pe_int) (pg_sub (pv 4) (pe_ix ix_tup (pv 10) (pv 9) (fun _ _ => rfl)) set_list))
  (pss_cons (ps_asg (pe_op op_add (pe_ix ix_list (pv 4) (pe_ix ix_tup (pv 10) (pe_op op_sub pe_int (pv 9)) (fun _ _ => rfl)) (fun _ _ => rfl)) pe_int) (pg_sub (pv 4) (pe_ix ix_tup (pv 10) (pe_op op_sub pe_int (pv 9)) (fun _ _ => rfl)) set_list))
  (pss_cons (ps_expr (pe_bm PySem.F.plainAttrs_list PySem.F.slot_list_append PySem.F.type_list_append mt_append (pv 5) (pa_cons (pe_tup (pa_cons (pv 8) (pa_cons (pv 9) pa_nil))) pa_nil)))
  (pss_one (ps_expr (pe_bm PySem.F.plainAttrs_list PySem.F.slot_list_append PySem.F.type_list_append mt_append (pv 6) (pa_cons (pe_callTy call_list_of (by rfl) m_list (by decide +kernel) (pa_cons (pv 4) pa_nil)) pa_nil)))))))
    pss_nil))))))
  (pss_one (ps_ret (pe_tup (pa_cons (pv 5) (pa_cons (pv 6) pa_nil))))))))), ?_⟩
  dsimp only [cxOf, L2.Cx.nox]
  refine fn_ds (fun i => [.at (.ref j), .d (houseD i.rooms i.ds), .d (intsD i.B), .d (.int (i.many : Int)), .un, .un, .un, .un, .un, .un, .un]) h (fun i => rfl) fun i ν hp => ?_
  obtain ⟨rooms, ds, B, many⟩ := i
  obtain ⟨hm, hD, hdl, hB, hn⟩ := hp
  dsimp only at hm hD hdl hB ⊢
  refine ds_seq (ds_setO rfl (by simp) (do_list (de_var rfl ⟨_, .inl rfl, fun Ah => ?_⟩)))
  walk_at "nrm"
  refine ds_seq (ds_setO rfl (by simp) (do_lst (da_nil ⟨szd rfl, fun Am => ?_⟩)))
  walk_at "nrm"
  refine ds_seq (ds_setO rfl (by simp) (do_lst (da_cons (Do.de (do_list (de_var rfl ⟨_, .inl rfl, da_nil ⟨szd rfl, fun Ar => ?_⟩⟩))))))
  walk_at "nrm"
  refine ds_seq (ds_fork ?_)
  walk_at "dj"
  rename_i r1 r1a r1b
  rw [show PyData.eqv (doorsD ds) (.list []) = decide (ds.map pairD = []) from eqv_nilL _]
  obtain ⟨n, en, hn1, hn2⟩ : ∃ n : Nat, r1 * (if (!decide (ds.map pairD = [])) = true then 1 else 0) = (n : Int) ∧ n ≤ many ∧ (0 < n → 0 < ds.length) := by
    cases ds with
    | nil => exact ⟨0, by rw [if_neg (by decide), Int.mul_zero]; rfl, by omega, fun h => absurd h (by decide)⟩
    | cons d ds => exact ⟨r1.toNat, by rw [if_pos (by simp), Int.mul_one]; omega, by omega, fun _ => by simp⟩
  rw [en]
  refine ⟨(shp_doors (n := 0) ds).ok (by decide), rfl, .inr (by split <;> exact ⟨by decide, by decide⟩), by omega, by omega, ?_⟩
  rw [Int.toNat_natCast, rngD_map]
  refine forW [7, 8, 9, 10] (fun (i : Nat) => PyData.int (i : Int)) (List.range n) rfl 2 (fun i r => ∃ (F : List Int) (mv : List Bead) (R : List (List Int)), r = [.at (.ref j), .d (houseD rooms ds), .d (intsD B), .d (.int many), .own Ah (F.map .int), .own Am (mv.map beadD), .own Ar (R.map intsD), .un, .un, .un, .un] ∧ Row rooms (10 ^ 18 + i) F ∧ mv.length ≤ i ∧ Moves ds.length mv ∧ R.length = mv.length + 1 ∧ ∀ F ∈ R, Row rooms (10 ^ 18 + 400) F)
    rfl ⟨B, [], [B], rfl, hB.up (by omega), by simp, (fun b hb => by cases hb), rfl, fun F hF => by rw [List.mem_singleton] at hF; subst hF; exact hB.up (by omega)⟩ (fun i a ν1 r0 ha hν hI => ?_) (fun ν2 ρ' hν hv hI => ?_)
  · obtain ⟨F, mv, R, rfl, hF, hl, hmv, hR, hRows⟩ := hI
    rw [List.length_range] at hν
    have hi : i < n := by have := lt_of_at ha; rw [List.length_range] at this; exact this
    have d0 := hn2 (by omega)
    refine dg_nm rfl ?_
    walk_at "nrm"
    refine ds_seq (ds_par rfl (fun _ => rfl) ?_)
    walk_at "dj"
    refine ⟨by omega, by rw [List.length_map]; omega, by rw [List.length_map]; omega, fun o oa ob => ?_⟩
    rw [List.length_map] at ob
    walk_at "dj"
    rename_i s s0 s1
    walk_at "nrm"
    obtain ⟨d, ed, ed'⟩ := at_lt (f := pairD) oa ob
    obtain ⟨o1, o2, o3⟩ := hD d (List.mem_of_getElem? ed')
    refine ds_seq (ds_set rfl ?_)
    walk_at "dj"
    refine ⟨_, ed, ?_⟩
    walk_at "nrm"
    refine ds_mid (M := fun ν' r => ν' = ν1 + 1 + 1 ∧ ∃ t : Int, 0 ≤ t ∧ t ≤ 1 ∧ r = [.at (.ref j), .d (houseD rooms ds), .d (intsD B), .d (.int many), .own Ah (F.map .int), .own Am (mv.map beadD), .own Ar (R.map intsD), .d (.int a), .d (.int o), .d (.int t), .d (pairD d)]) (ds_if ?_) ?_
    · walk_at "dj"
      obtain ⟨e, ee, he⟩ := side_of s0 (by omega) d
      have e1 : e < rooms := by rcases he with rfl | rfl <;> assumption
      refine ⟨_, ee, ?_⟩
      walk_at "dj"
      refine ⟨_, atD_ints (by rw [hF.1]; exact e1), ?_⟩
      walk_at "dj"
      refine ⟨fun _ => ds_set rfl (dI_e ?_), fun _ => ds_next ⟨rfl, s, s0, by omega, rfl⟩⟩
      walk_at "dj"
      exact ⟨rfl, 1 - s, by omega, by omega, rfl⟩
    · rintro ν' r ⟨rfl, t, t0, t1, rfl⟩
      obtain ⟨e, ee, he⟩ := side_of t0 t1 d
      obtain ⟨e', ee', he'⟩ := side_of (s := 1 - t) (by omega) (by omega) d
      have e1 : e < rooms := by rcases he with rfl | rfl <;> assumption
      have e1' : e' < rooms := by rcases he' with rfl | rfl <;> assumption
      refine ds_if ?_
      walk_at "dj"
      refine ⟨_, ee, ?_⟩
      walk_at "dj"
      refine ⟨_, atD_ints (by rw [hF.1]; exact e1), ?_⟩
      walk_at "dj"
      obtain ⟨g1, g2, g3⟩ := hF.get e1
      refine ⟨fun hpos => ?_, fun _ => ds_next ⟨by omega, rfl, F, mv, R, rfl, hF.up (by omega), by omega, hmv, hR, hRows⟩⟩
      have hpos := of_decide_eq_true hpos
      -- one goes out
      refine ds_seq (ds_subI rfl (dI_e ?_))
      walk_at "dj"
      refine ⟨_, ee, ?_⟩
      walk_at "dj"
      refine ⟨_, atD_ints (by rw [hF.1]; exact e1), ?_⟩
      walk_at "dj"
      refine ⟨_, ee, e, by rw [List.length_map, hF.1]; exact ixN_nat e1, ?_⟩
      rw [show (F.map PyData.int).set e (.int (F.getD e 0 - 1)) = (F.set e (F.getD e 0 - 1)).map .int from (List.map_set ..).symm]
      walk_at "nrm"
      have hF1 : Row rooms (10 ^ 18 + i) (F.set e (F.getD e 0 - 1)) := hF.set (by omega) (by omega)
      generalize F.set e (F.getD e 0 - 1) = F1 at hF1 ⊢
      -- .. and in
      refine ds_seq (ds_subI rfl (dI_e ?_))
      walk_at "dj"
      refine ⟨_, ee', ?_⟩
      walk_at "dj"
      refine ⟨_, atD_ints (by rw [hF1.1]; exact e1'), ?_⟩
      walk_at "dj"
      refine ⟨_, ee', e', by rw [List.length_map, hF1.1]; exact ixN_nat e1', ?_⟩
      obtain ⟨g4, g5, g6⟩ := hF1.get e1'
      rw [show (F1.map PyData.int).set e' (.int (F1.getD e' 0 + 1)) = (F1.set e' (F1.getD e' 0 + 1)).map .int from (List.map_set ..).symm]
      walk_at "nrm"
      have hF2 : Row rooms (10 ^ 18 + (i + 1)) (F1.set e' (F1.getD e' 0 + 1)) := (hF1.up (by omega)).set (by omega) (by omega)
      generalize F1.set e' (F1.getD e' 0 + 1) = F2 at hF2 ⊢
      refine ds_seq (ds_append rfl ?_)
      walk_at "dj"
      refine ⟨szL (n := (mv.map beadD).length) (by rw [List.length_map]; omega), ?_⟩
      walk_at "nrm"
      refine ds_append rfl (Do.de (do_listO rfl ?_))
      refine ⟨szL (n := (R.map intsD).length) (by rw [List.length_map]; omega), ?_⟩
      walk_at "nrm"
      refine ⟨by omega, rfl, F2, mv ++ [(o.toNat, t)], R ++ [F2], ?_, by simpa using hF2, by rw [List.length_append]; show mv.length + 1 ≤ i + 1; omega, fun b hb => ?_, by rw [List.length_append, List.length_append, hR]; rfl, fun G hG => ?_⟩
      · rw [List.map_append, List.map_append]
        show _ = [_, _, _, _, _, Sl.own Am (mv.map beadD ++ [.tuple [.int (o.toNat : Nat), .int t]]), _, _, _, _, _]
        rw [Int.toNat_of_nonneg oa]
        rfl
      · rcases List.mem_append.mp hb with h | h
        · exact hmv b h
        · rw [List.mem_singleton] at h
          subst h
          exact ⟨by show o.toNat < ds.length; omega, t0, t1⟩
      · rcases List.mem_append.mp hG with h | h
        · exact hRows G h
        · rw [List.mem_singleton] at h
          subst h
          exact hF2.up (by omega)
  · obtain ⟨F, mv, R, eR, hF, hl, hmv, hR, hRows⟩ := hI
    rw [List.length_range] at hν hl
    refine ds_wipe [7, 8, 9, 10] hv ?_
    rw [eR]
    refine ds_freeze 5 rfl ?_
    walk_at "nrm"
    refine ds_freeze 6 rfl ?_
    walk_at "nrm"
    refine ds_ret ?_
    walk_at "dj"
    exact ⟨by omega, mv, R, rfl, by omega, hmv, hR, hRows⟩
end
end Bd
namespace Bd
open PySem PySem.Spec PyProof.Rows L2 HT
local macro_rules | `(tactic| walk_at "de1") => `(tactic| (with_reducible first
  | refine dI_var rfl ?_ | refine dI_c ?_ | refine dI_op0 ?_ | refine dI_op ?_ | refine dI_un ?_ | refine dI_ixO rfl ?_ | refine dI_ixT ?_ | refine dI_ixL ?_ | refine dI_if ?_ | refine dI_lenO rfl ?_ | refine dI_lenL ?_ | refine dI_abs ?_ | refine dI_two ?_ | refine dI_intB ?_
  | refine dB_var rfl ?_ | refine dB_c ?_ | refine dB_op0 ?_ | refine dB_eqI ?_ | refine dB_neI ?_ | refine dB_inI ?_ | refine dB_not ?_ | refine dB_and ?_ | refine dB_or ?_ | refine dB_chain ?_ | refine dB_eqD ?_ | refine dB_neD ?_ | refine dB_isi ?_
  | refine dL_var rfl ?_ | refine dL_ixO rfl ?_ | refine dL_ixT ?_ | refine dL_ixL ?_ | refine dL_o ?_
  | refine dT_var rfl ?_ | refine dT_ixL ?_ | refine dT_ixT ?_ | refine dT_tup ?_ | refine dT_slT ?_ | refine dT_catT ?_
  | refine de_var rfl ?_ | refine dX_ixO rfl ?_ | refine dX_ixT ?_ | refine dX_ixL ?_ | refine de_tup ?_ | refine de_c rfl ?_ | refine de_if ?_ | refine Do.de (do_lst ?_) | refine de_catTT ?_ | refine de_slTT ?_
  | refine dI_e (dI_op0 ?_) | refine dI_e (dI_op ?_) | refine dI_e (dI_un ?_) | refine dI_e (dI_lenO rfl ?_) | refine dI_e (dI_lenL ?_) | refine dI_e (dI_abs ?_) | refine dI_e (dI_two ?_) | refine dI_e (dI_intB ?_)
  | refine dB_e (dB_op0 ?_) | refine dB_e (dB_eqI ?_) | refine dB_e (dB_neI ?_) | refine dB_e (dB_inI ?_) | refine dB_e (dB_not ?_) | refine dB_e (dB_and ?_) | refine dB_e (dB_or ?_) | refine dB_e (dB_chain ?_) | refine dB_e (dB_eqD ?_) | refine dB_e (dB_neD ?_)
  | refine dt_tB ?_ | refine dt_tTest ?_ | refine dt_not ?_ | refine dt_and ?_ | refine dt_or ?_ | refine dt_yes ?_
  | refine da_nil ?_ | refine da_cons ?_ | refine dp_no ?_ | refine dp_partI ?_
  | refine di_rngI ?_ | refine di_listL ?_ | refine di_zipL ?_ | refine di_enumL ?_
  | refine do_lck rfl ?_ | refine do_lst ?_ | refine do_catL ?_ | refine do_slLL ?_ | refine do_revL ?_
  | refine dg_nm rfl ?_ | refine dg_name rfl (by simp) ?_ | refine dg_tup rfl ?_ | refine dgs_cons ?_ | refine dgs_nil ?_))
local macro_rules | `(tactic| walk_at "de") => `(tactic| (repeat (first | walk_at "de1" | (refine ⟨_, rfl, ?_⟩))))
local macro_rules | `(tactic| walk_at "nrm") => `(tactic| (try dsimp only [List.set, toD, wipeR, List.map, pairD, beadD, lookD]))

local macro_rules | `(tactic| walk_at "dj") => `(tactic| (repeat (first | walk_at "de1" | (refine ⟨_, rfl, ?_⟩) | (refine dI_dip rfl ?_) | (refine dI_e (dI_dip rfl ?_)) | (refine ⟨by omega, by omega, by omega, fun r h0 h1 => ?_⟩) | (refine ⟨szd rfl, ?_⟩) | (refine ⟨(⟨by decide, by decide, by decide⟩ : CPow _ _), ?_⟩))))

abbrev sLawHidden : Stmt := topS 24
theorem scLawHidden : FnScope ["jug", "moves", "often", "door", "side"] ["jug", "moves"] (defScope sLawHidden) := ⟨rfl, rfl, rfl, by decide +kernel, rfl, by decide +kernel, by decide +kernel⟩
abbrev sLawLook : Stmt := topS 25
theorem scLawLook : FnScope ["jug", "home", "rows", "when", "spot", "number", "kind", "some"] ["jug", "home", "rows"] (defScope sLawLook) := ⟨rfl, rfl, rfl, by decide +kernel, rfl, by decide +kernel, by decide +kernel⟩
structure Hd where
  D : Nat
  mv : List Bead
/-- beads, some ways not seen -/
def Beads (D : Nat) (bs : List Bead) : Prop := ∀ b ∈ bs, b.1 < D ∧ -1 ≤ b.2 ∧ b.2 ≤ 1
def spHidden (K : PySem.W.Frag) : Sp := spJ (ι := Hd) K (fun i => [.list (i.mv.map beadD)]) (fun i n => i.mv.length ≤ 400 ∧ Moves i.D i.mv ∧ n + 1000 ≤ lim) (fun i n n' s => n' ≤ n + 1000 ∧ ∃ (a : Addr) (bs : List Bead), s = .own a (bs.map beadD) ∧ bs.length = i.mv.length ∧ Beads i.D bs)
structure Ls where
  rooms : Nat
  ds : List (Nat × Nat)
  R : List (List Int)
/-- a look at a room that is, at a moment that is -/
def LookOk (rooms many : Nat) (l : Lk) : Prop := 0 ≤ l.1 ∧ l.1 < many ∧ 0 ≤ l.2.1 ∧ l.2.1 < rooms ∧ -(2 ^ 70) ≤ l.2.2.1 ∧ l.2.2.1 ≤ 2 ^ 70 ∧ -(2 ^ 70) ≤ l.2.2.2 ∧ l.2.2.2 ≤ 2 ^ 70
def LookIn (l : Lk) : Prop := -(2 ^ 69) ≤ l.2.2.1 ∧ l.2.2.1 ≤ 2 ^ 69 ∧ -(2 ^ 69) ≤ l.2.2.2 ∧ l.2.2.2 ≤ 2 ^ 69
def spLook (K : PySem.W.Frag) : Sp := spJ (ι := Ls) K (fun i => [houseD i.rooms i.ds, .list (i.R.map intsD)]) (fun i n => 0 < i.rooms ∧ i.rooms ≤ 10 ∧ 0 < i.R.length ∧ i.R.length ≤ 500 ∧ (∀ F ∈ i.R, Row i.rooms (10 ^ 18 + 400) F) ∧ n + 10 ≤ lim) (fun i n n' s => n' ≤ n + 10 ∧ ∃ l : Lk, s = .d (lookD l) ∧ LookOk i.rooms i.R.length l ∧ LookIn l)
section
variable {P : Program} {w : World} {K : PySem.W.Frag} {mg : Str → Option Value} {base : Heap}
theorem ok_hidden {f : Addr} {fd : FuncData} (F : Fun K "_law_hidden" "_law_hidden" sLawHidden f fd) (cal_law_dip : Cg P w K mg base 1 "_law_dip" (spDip K)) : FnG P w K mg base 2 f fd ["jug", "moves"] (spHidden K) := by
  have sc := scLawHidden
  refine fnG_of F scLawHidden (fun vs H Q E h => by obtain ⟨G, j, h⟩ := h; exact spD_len h fun i => rfl) (fun cdv A outer s H vs Q E hr hg h => ?_)
  obtain ⟨G, j, h⟩ := h
  refine ⟨_, (pss_cons (ps_set (i := 2) sc.nd rfl (.inr rfl) (pe_ix ix_list (pe_lst (pa_cons pe_int (pa_cons pe_int (pa_cons pe_int pa_nil)))) (pe_g cal_law_dip hg hr (by first | decide | exact Nat.le_refl _ | omega) (by rfl) (pa_cons (pv 0) (pa_cons pe_int pa_nil))) (fun _ _ => rfl)))
  (pss_one (ps_ret (pe_lc (own := [("door", 3), ("side", 4)]) (g := gTup K 2 (gCons (gName 3) (gCons (gName 4) gNil))) (tt := tYes) (by rfl) sc.nd  (pi_list (pv 1)) (blkOk_by (own := [("door", 3), ("side", 4)]) (N := ["jug", "moves", "often", "door", "side"]) (sc := defScope sLawHidden) (by decide +kernel)) (fun _ _ _ _ _ => (pg_tup (by rfl) (pgs_cons (pg_name (i := 3) sc.nd rfl (.inl rfl)) (pgs_cons (pg_name (i := 4) sc.nd rfl (.inl rfl)) pgs_nil)))) (fun _ _ _ _ _ => pts_nil) (fun _ _ _ _ _ => (pe_tup (pa_cons (pv 3) (pa_cons (pe_ifExp (pt_cmpR op_eq (pe_g cal_law_dip hg hr (by first | decide | exact Nat.le_refl _ | omega) (by rfl) (pa_cons (pv 0) (pa_cons (pv 2) pa_nil))) pe_int (nomark _)) (pv 4) (pe_un un_neg pe_int)) pa_nil)))))))), ?_⟩
  dsimp only [cxOf, L2.Cx.nox]
  refine fn_ds (fun i => [.at (.ref j), .d (.list (i.mv.map beadD)), .un, .un, .un]) h (fun i => rfl) fun i ν hp => ?_
  obtain ⟨D, mv⟩ := i
  obtain ⟨hl, hm, hn⟩ := hp
  dsimp only at hl hm ⊢
  refine ds_seq (ds_set rfl (dI_e ?_))
  walk_at "dj"
  rename_i r ra rb
  obtain ⟨often, ef, f0, f1⟩ : ∃ c : Int, atD [.int 2, .int 5, .int 9] r = some (.int c) ∧ 0 < c ∧ c ≤ 9 := by
    rcases (by omega : r = 0 ∨ r = 1 ∨ r = 2) with rfl | rfl | rfl
    · exact ⟨2, rfl, by decide, by decide⟩
    · exact ⟨5, rfl, by decide, by decide⟩
    · exact ⟨9, rfl, by decide, by decide⟩
  refine ⟨_, ef, ?_⟩
  walk_at "nrm"
  refine ds_retO ?_
  walk_at "dj"
  refine lcP beadD mv (fun a y => ∃ x : Bead, y = beadD x ∧ x.1 = a.1 ∧ -1 ≤ x.2 ∧ x.2 ≤ 1) 1 (szL (by omega)) rfl (fun a ha ν1 hν => ?_) (fun ν2 ys hν hy hq A => ?_)
  · obtain ⟨m1, m2, m3⟩ := hm a ha
    walk_at "nrm"
    walk_at "dj"
    refine ⟨fun _ => ?_, fun _ => ?_⟩
    · walk_at "dj"
      exact ⟨by omega, (a.1, a.2), rfl, rfl, by show -1 ≤ a.2; omega, m3⟩
    · walk_at "dj"
      exact ⟨by omega, (a.1, -1), rfl, rfl, by show (-1 : Int) ≤ -1; decide, by show (-1 : Int) ≤ 1; decide⟩
  · have : ∃ bs : List Bead, ys = bs.map beadD ∧ ∀ x ∈ bs, x.1 < D ∧ -1 ≤ x.2 ∧ x.2 ≤ 1 := by
      refine things_of fun y hy' => ?_
      obtain ⟨k, hk⟩ := List.getElem?_of_mem hy'
      have hk' := lt_of_at hk
      have e := List.getElem?_eq_getElem (show k < mv.length by omega)
      obtain ⟨x, rfl, x1, x2, x3⟩ := hq k _ y e hk
      exact ⟨x, rfl, by rw [x1]; exact (hm _ (List.mem_of_getElem? e)).1, x2, x3⟩
    obtain ⟨bs, rfl, hbs⟩ := this
    rw [List.length_map] at hy
    exact ⟨by omega, A, bs, rfl, hy, hbs⟩
theorem ok_look {f : Addr} {fd : FuncData} (F : Fun K "_law_look" "_law_look" sLawLook f fd) (cal_law_dip : Cg P w K mg base 1 "_law_dip" (spDip K)) (m_len : mg "len" = none) : FnG P w K mg base 2 f fd ["jug", "home", "rows"] (spLook K) := by
  have sc := scLawLook
  refine fnG_of F scLawLook (fun vs H Q E h => by obtain ⟨G, j, h⟩ := h; exact spD_len h fun i => rfl) (fun cdv A outer s H vs Q E hr hg h => ?_)
  obtain ⟨G, j, h⟩ := h
  refine ⟨_, (pss_cons (ps_par (i := 3) (j := 4) (by rfl) sc.nd rfl rfl (by decide) rfl rfl (pa_cons (pe_g cal_law_dip hg hr (by first | decide | exact Nat.le_refl _ | omega) (by rfl) (pa_cons (pv 0) (pa_cons (pe_callB call_len_seq (by rfl) m_len PySem.boot_len (pa_cons (pv 2) pa_nil)) pa_nil))) (pa_cons (pe_g cal_law_dip hg hr (by first | decide | exact Nat.le_refl _ | omega) (by rfl) (pa_cons (pv 0) (pa_cons (pe_ix ix_tup (pv 1) pe_int (fun _ _ => rfl)) pa_nil))) pa_nil)) (by rfl))
  (pss_cons (ps_set (i := 5) sc.nd rfl (.inl rfl) (pe_ix ix_list (pe_ix ix_list (pv 2) (pv 3) (fun _ _ => rfl)) (pv 4) (fun _ _ => rfl)))
  (pss_cons (ps_set (i := 6) sc.nd rfl (.inl rfl) (pe_g cal_law_dip hg hr (by first | decide | exact Nat.le_refl _ | omega) (by rfl) (pa_cons (pv 0) (pa_cons pe_int pa_nil))))
  (pss_cons (ps_if (pt_cmpR op_lt (pv 6) pe_int (nomark _))
    (pss_one (ps_ret (pe_tup (pa_cons (pv 3) (pa_cons (pv 4) (pa_cons (pe_op op_sub (pv 5) (pe_g cal_law_dip hg hr (by first | decide | exact Nat.le_refl _ | omega) (by rfl) (pa_cons (pv 0) (pa_cons pe_int pa_nil)))) (pa_cons (pe_op op_add (pv 5) (pe_g cal_law_dip hg hr (by first | decide | exact Nat.le_refl _ | omega) (by rfl) (pa_cons (pv 0) (pa_cons pe_int pa_nil)))) pa_nil)))))))
    pss_nil)
  (pss_cons (ps_if (pt_cmpR op_lt (pv 6) pe_int (nomark _))
    (pss_one (ps_ret (pe_tup (pa_cons (pv 3) (pa_cons (pv 4) (pa_cons (pe_op op_sub (pe_op op_add (pv 5) pe_int) (pe_g cal_law_dip hg hr (by first | decide | exact Nat.le_refl _ | omega) (by rfl) (pa_cons (pv 0) (pa_cons pe_int pa_nil)))) (pa_cons (pe_op op_add (pv 5) pe_int) pa_nil)))))))
    pss_nil)
  (pss_cons (ps_set (i := 7) sc.nd rfl (.inl rfl) (pe_lst (pa_cons (pe_tup (pa_cons pe_int (pa_cons pe_int pa_nil))) (pa_cons (pe_tup (pa_cons pe_int (pa_cons (pe_op op_pow pe_int pe_int) pa_nil))) (pa_cons (pe_tup (pa_cons (pe_op op_sub pe_int (pe_op op_pow pe_int pe_int)) (pa_cons pe_int pa_nil))) (pa_cons (pe_tup (pa_cons pe_int (pa_cons pe_int pa_nil))) (pa_cons (pe_tup (pa_cons (pe_un un_neg pe_int) (pa_cons (pe_un un_neg pe_int) pa_nil))) (pa_cons (pe_tup (pa_cons (pe_op op_pow pe_int pe_int) (pa_cons (pe_op op_pow pe_int pe_int) pa_nil))) pa_nil))))))))
  (pss_one (ps_ret (pe_op op_catT (pe_tup (pa_cons (pv 3) (pa_cons (pv 4) pa_nil))) (pe_ix ix_list (pv 7) (pe_g cal_law_dip hg hr (by first | decide | exact Nat.le_refl _ | omega) (by rfl) (pa_cons (pv 0) (pa_cons pe_int pa_nil))) (fun _ _ => rfl))))))))))), ?_⟩
  dsimp only [cxOf, L2.Cx.nox]
  refine fn_ds (fun i => [.at (.ref j), .d (houseD i.rooms i.ds), .d (.list (i.R.map intsD)), .un, .un, .un, .un, .un]) h (fun i => rfl) fun i ν hp => ?_
  obtain ⟨rooms, ds, R⟩ := i
  obtain ⟨hr0, hr10, hR0, hR1, hRows, hn⟩ := hp
  dsimp only at hr0 hr10 hR0 hR1 hRows ⊢
  refine ds_seq (ds_par rfl (fun _ => rfl) ?_)
  walk_at "dj"
  refine ⟨by omega, by rw [List.length_map]; omega, by rw [List.length_map]; omega, fun t ta tb => ?_⟩
  rw [List.length_map] at tb
  walk_at "dj"
  rename_i o oa ob
  walk_at "nrm"
  obtain ⟨F, eF, eF'⟩ := at_lt (f := intsD) ta tb
  have hF := hRows F (List.mem_of_getElem? eF')
  obtain ⟨g1, g2, g3⟩ := hF.get (show o.toNat < rooms by omega)
  have eo : atD (F.map PyData.int) o = some (.int (F.getD o.toNat 0)) := by
    have := atD_ints (ns := F) (i := o.toNat) (by rw [hF.1]; omega)
    rwa [Int.toNat_of_nonneg oa] at this
  generalize F.getD o.toNat 0 = nb at g2 g3 eo
  refine ds_seq (ds_set rfl (dI_e ?_))
  walk_at "dj"
  refine ⟨_, eF, ?_⟩
  walk_at "dj"
  refine ⟨_, eo, ?_⟩
  walk_at "nrm"
  refine ds_seq (ds_set rfl (dI_e ?_))
  walk_at "dj"
  rename_i kd ka kb
  walk_at "nrm"
  refine ds_seq (ds_if ?_)
  walk_at "dj"
  refine ⟨fun _ => ds_ret ?_, fun _ => ds_next ?_⟩
  · walk_at "dj"
    exact ⟨by omega, (t, o, _, _), rfl, ⟨ta, tb, oa, ob, by show _ ≤ nb - _; omega, by show nb - _ ≤ _; omega, by show _ ≤ nb + _; omega, by show nb + _ ≤ _; omega⟩, by show _ ≤ nb - _; omega, by show nb - _ ≤ _; omega, by show _ ≤ nb + _; omega, by show nb + _ ≤ _; omega⟩
  refine ds_seq (ds_if ?_)
  walk_at "dj"
  refine ⟨fun _ => ds_ret ?_, fun _ => ds_next ?_⟩
  · walk_at "dj"
    exact ⟨by omega, (t, o, _, _), rfl, ⟨ta, tb, oa, ob, by show _ ≤ nb + 1 - _; omega, by show nb + 1 - _ ≤ _; omega, by show _ ≤ nb + 1; omega, by show nb + 1 ≤ _; omega⟩, by show _ ≤ nb + 1 - _; omega, by show nb + 1 - _ ≤ _; omega, by show _ ≤ nb + 1; omega, by show nb + 1 ≤ _; omega⟩
  refine ds_seq (ds_setO rfl (by simp) ?_)
  walk_at "dj"
  intro A
  walk_at "nrm"
  refine ds_freeze 7 rfl ?_
  walk_at "nrm"
  refine ds_ret ?_
  walk_at "dj"
  rename_i r ra rb
  obtain ⟨x, y, exy, x0, x1, y0, y1⟩ : ∃ x y : Int, atD [.tuple [.int 0, .int 0], .tuple [.int 1, .int (10 ^ Int.toNat 19)], .tuple [.int (0 - 10 ^ Int.toNat 19), .int 0], .tuple [.int 3, .int 1], .tuple [.int (-3), .int (-1)], .tuple [.int (10 ^ Int.toNat 19), .int (10 ^ Int.toNat 19)]] r = some (.tuple [.int x, .int y]) ∧ -(2 ^ 69) ≤ x ∧ x ≤ 2 ^ 69 ∧ -(2 ^ 69) ≤ y ∧ y ≤ 2 ^ 69 := by
    rcases (by omega : r = 0 ∨ r = 1 ∨ r = 2 ∨ r = 3 ∨ r = 4 ∨ r = 5) with rfl | rfl | rfl | rfl | rfl | rfl
    · exact ⟨_, _, rfl, by decide, by decide, by decide, by decide⟩
    · exact ⟨_, _, rfl, by decide, by decide, by decide, by decide⟩
    · exact ⟨_, _, rfl, by decide, by decide, by decide, by decide⟩
    · exact ⟨_, _, rfl, by decide, by decide, by decide, by decide⟩
    · exact ⟨_, _, rfl, by decide, by decide, by decide, by decide⟩
    · exact ⟨_, _, rfl, by decide, by decide, by decide, by decide⟩
  refine ⟨_, exy, ?_⟩
  exact ⟨by simp, by simp, szd rfl, by omega, (t, o, x, y), rfl, ⟨ta, tb, oa, ob, by show _ ≤ x; omega, by show x ≤ _; omega, by show _ ≤ y; omega, by show y ≤ _; omega⟩, x0, x1, y0, y1⟩
end
end Bd
namespace Bd
open PySem PySem.Spec PyProof.Rows L2 HT
local macro_rules | `(tactic| walk_at "de1") => `(tactic| (with_reducible first
  | refine dI_var rfl ?_ | refine dI_c ?_ | refine dI_op0 ?_ | refine dI_op ?_ | refine dI_un ?_ | refine dI_ixO rfl ?_ | refine dI_ixT ?_ | refine dI_ixL ?_ | refine dI_if ?_ | refine dI_lenO rfl ?_ | refine dI_lenL ?_ | refine dI_abs ?_ | refine dI_two ?_ | refine dI_intB ?_
  | refine dB_var rfl ?_ | refine dB_c ?_ | refine dB_op0 ?_ | refine dB_eqI ?_ | refine dB_neI ?_ | refine dB_inI ?_ | refine dB_not ?_ | refine dB_and ?_ | refine dB_or ?_ | refine dB_chain ?_ | refine dB_eqD ?_ | refine dB_neD ?_ | refine dB_isi ?_
  | refine dL_var rfl ?_ | refine dL_ixO rfl ?_ | refine dL_ixT ?_ | refine dL_ixL ?_ | refine dL_o ?_
  | refine dT_var rfl ?_ | refine dT_ixL ?_ | refine dT_ixT ?_ | refine dT_tup ?_ | refine dT_slT ?_ | refine dT_catT ?_
  | refine de_var rfl ?_ | refine dX_ixO rfl ?_ | refine dX_ixT ?_ | refine dX_ixL ?_ | refine de_tup ?_ | refine de_c rfl ?_ | refine de_if ?_ | refine Do.de (do_lst ?_) | refine de_catTT ?_ | refine de_slTT ?_
  | refine dI_e (dI_op0 ?_) | refine dI_e (dI_op ?_) | refine dI_e (dI_un ?_) | refine dI_e (dI_lenO rfl ?_) | refine dI_e (dI_lenL ?_) | refine dI_e (dI_abs ?_) | refine dI_e (dI_two ?_) | refine dI_e (dI_intB ?_)
  | refine dB_e (dB_op0 ?_) | refine dB_e (dB_eqI ?_) | refine dB_e (dB_neI ?_) | refine dB_e (dB_inI ?_) | refine dB_e (dB_not ?_) | refine dB_e (dB_and ?_) | refine dB_e (dB_or ?_) | refine dB_e (dB_chain ?_) | refine dB_e (dB_eqD ?_) | refine dB_e (dB_neD ?_)
  | refine dt_tB ?_ | refine dt_tTest ?_ | refine dt_not ?_ | refine dt_and ?_ | refine dt_or ?_ | refine dt_yes ?_
  | refine da_nil ?_ | refine da_cons ?_ | refine dp_no ?_ | refine dp_partI ?_
  | refine di_rngI ?_ | refine di_listL ?_ | refine di_zipL ?_ | refine di_enumL ?_
  | refine do_lck rfl ?_ | refine do_lst ?_ | refine do_catL ?_ | refine do_slLL ?_ | refine do_revL ?_
  | refine dg_nm rfl ?_ | refine dg_name rfl (by simp) ?_ | refine dg_tup rfl ?_ | refine dgs_cons ?_ | refine dgs_nil ?_))
local macro_rules | `(tactic| walk_at "de") => `(tactic| (repeat (first | walk_at "de1" | (refine ⟨_, rfl, ?_⟩))))
local macro_rules | `(tactic| walk_at "nrm") => `(tactic| (try dsimp only [List.set, toD, wipeR, List.map, pairD, beadD, lookD]))

abbrev sThrough : Stmt := topS 1
theorem scThrough : FnScope ["house", "door", "way", "a", "b"] ["house", "door", "way"] (defScope sThrough) := ⟨rfl, rfl, rfl, by decide +kernel, rfl, by decide +kernel, by decide +kernel⟩
abbrev sGo : Stmt := topS 2
theorem scGo : FnScope ["house", "numbers", "door", "way", "out", "into"] ["house", "numbers", "door", "way"] (defScope sGo) := ⟨rfl, rfl, rfl, by decide +kernel, rfl, by decide +kernel, by decide +kernel⟩
/-- a going, its door and its way -/
abbrev Gg := Int × Int
abbrev ggD (x : Gg) : PyData := .tuple [.int x.1, .int x.2]
structure Th where
  rooms : Nat
  ds : List (Nat × Nat)
  d : Int
  w : Int
def wayIn (ds : List (Nat × Nat)) (d w : Int) : Prop := 0 ≤ d ∧ d < ds.length ∧ 0 ≤ w ∧ w ≤ 1
/-- the room that is left, and the other one -/
def outOf (ds : List (Nat × Nat)) (x : Gg) : Nat := let p := ds.getD x.1.toNat (0, 0); if x.2 = 0 then p.1 else p.2
def intoOf (ds : List (Nat × Nat)) (x : Gg) : Nat := let p := ds.getD x.1.toNat (0, 0); if x.2 = 0 then p.2 else p.1
def stepTo (ds : List (Nat × Nat)) (F : List Int) (x : Gg) : List Int :=
  let F1 := F.set (outOf ds x) (F.getD (outOf ds x) 0 - 1)
  F1.set (intoOf ds x) (F1.getD (intoOf ds x) 0 + 1)
theorem door_at {ds : List (Nat × Nat)} {x : Gg} (h0 : 0 ≤ x.1) (h1 : x.1 < ds.length) : atD (ds.map pairD) x.1 = some (pairD (ds.getD x.1.toNat (0, 0))) := by
  obtain ⟨a, e, e'⟩ := at_lt (f := pairD) h0 h1
  rw [e, List.getD_eq_getElem?_getD, e']; rfl
theorem rooms_of {rooms : Nat} {ds : List (Nat × Nat)} (hD : Doors rooms ds) {x : Gg} (h0 : 0 ≤ x.1) (h1 : x.1 < ds.length) : outOf ds x < rooms ∧ intoOf ds x < rooms := by
  obtain ⟨a, e, e'⟩ := at_lt (f := pairD) h0 h1
  have := hD a (List.mem_of_getElem? e')
  unfold outOf intoOf
  rw [List.getD_eq_getElem?_getD, e']
  show (if x.2 = 0 then a.1 else a.2) < rooms ∧ (if x.2 = 0 then a.2 else a.1) < rooms
  split <;> exact ⟨by omega, by omega⟩
def spThrough (K : PySem.W.Frag) : Sp := spD (ι := Th) K Wn [] (fun t => [houseD t.rooms t.ds, .int t.d, .int t.w]) (fun t _ => 0 ≤ t.d ∧ t.d < t.ds.length) (fun t _ _ s => s = .d (.tuple [.int (outOf t.ds (t.d, t.w)), .int (intoOf t.ds (t.d, t.w))]))
structure Gos where
  rooms : Nat
  ds : List (Nat × Nat)
  F : List Int
  d : Int
  w : Int
def spGo (K : PySem.W.Frag) : Sp := spO1 (ι := Gos) K (fun t => houseD t.rooms t.ds) (fun t => [.int t.d, .int t.w]) (fun t => t.F.map .int) (fun t => Doors t.rooms t.ds ∧ t.F.length = t.rooms ∧ 0 ≤ t.d ∧ t.d < t.ds.length) (fun t ys => ys = (stepTo t.ds t.F (t.d, t.w)).map .int)
section
variable {P : Program} {w : World} {K : PySem.W.Frag} {mg : Str → Option Value} {base : Heap}
theorem ok_through {f : Addr} {fd : FuncData} (F : Fun K "through" "through" sThrough f fd) : FnG P w K mg base 1 f fd ["house", "door", "way"] (spThrough K) := by
  have sc := scThrough
  refine fnG_of F scThrough (fun vs H Q E h => spD_len h fun i => rfl) (fun cdv A outer s H vs Q E hr hg h => ?_)
  refine ⟨_, (pss_cons (ps_asg (pe_ix ix_list (pe_ix ix_tup (pv 0) pe_int (fun _ _ => rfl)) (pv 1) (fun _ _ => rfl)) (pg_tup (by rfl) (pgs_cons (pg_name (i := 3) sc.nd rfl (.inl rfl)) (pgs_cons (pg_name (i := 4) sc.nd rfl (.inl rfl)) pgs_nil))))
  (pss_one (ps_ret (pe_ifExp (pt_cmpR op_eq (pv 2) pe_int (nomark _)) (pe_tup (pa_cons (pv 3) (pa_cons (pv 4) pa_nil))) (pe_tup (pa_cons (pv 4) (pa_cons (pv 3) pa_nil))))))), ?_⟩
  dsimp only [cxOf, L2.Cx.nox]
  refine fn_ds (fun t => [.d (houseD t.rooms t.ds), .d (.int t.d), .d (.int t.w), .un, .un]) h (fun i => rfl) fun t ν hp => ?_
  obtain ⟨h0, h1⟩ := hp
  refine ds_seq (ds_asg ?_)
  walk_at "de"
  refine ⟨_, door_at (x := (t.d, t.w)) h0 h1, ?_⟩
  walk_at "nrm"
  walk_at "de"
  walk_at "nrm"
  refine ds_ret (de_if ?_)
  walk_at "de"
  refine ⟨fun e => ?_, fun e => ?_⟩
  · have e := of_decide_eq_true e
    walk_at "de"
    refine ⟨szd rfl, ?_⟩
    show Sl.d _ = Sl.d _
    unfold outOf intoOf
    rw [if_pos (show (t.d, t.w).2 = 0 from e), if_pos (show (t.d, t.w).2 = 0 from e)]
  · have e := of_decide_eq_false e
    walk_at "de"
    refine ⟨szd rfl, ?_⟩
    show Sl.d _ = Sl.d _
    unfold outOf intoOf
    rw [if_neg (show ¬ (t.d, t.w).2 = 0 from e), if_neg (show ¬ (t.d, t.w).2 = 0 from e)]
theorem ok_go {f : Addr} {fd : FuncData} (F : Fun K "go" "go" sGo f fd) (cal_through : Cg P w K mg base 1 "through" (spThrough K)) : FnG P w K mg base 2 f fd ["house", "numbers", "door", "way"] (spGo K) := by
  have sc := scGo
  refine fnG_of F scGo (fun vs H Q E h => spO1_len h fun i => rfl) (fun cdv A outer s H vs Q E hr hg h => ?_)
  refine ⟨_, (pss_cons (ps_asg (pe_g cal_through hg hr (by first | decide | exact Nat.le_refl _ | omega) (by rfl) (pa_cons (pv 0) (pa_cons (pv 2) (pa_cons (pv 3) pa_nil)))) (pg_tup (by rfl) (pgs_cons (pg_name (i := 4) sc.nd rfl (.inl rfl)) (pgs_cons (pg_name (i := 5) sc.nd rfl (.inl rfl)) pgs_nil))))
  (pss_cons (ps_augS (pv 1) (pv 4) get_list pe_int ip_sub set_list)
  (pss_one (ps_augS (pv 1) (pv 5) get_list pe_int ip_add set_list)))), ?_⟩
  dsimp only [cxOf, L2.Cx.nox]
  refine fn_dsO (fun t a => [.d (houseD t.rooms t.ds), .own a (t.F.map .int), .d (.int t.d), .d (.int t.w), .un, .un]) h (fun i a => rfl) fun t a hp => ?_
  obtain ⟨hD, hF, h0, h1⟩ := hp
  obtain ⟨o1, o2⟩ := rooms_of hD (x := (t.d, t.w)) h0 h1
  refine ds_seq (ds_asg (de_call0 ?_))
  walk_at "de"
  refine ⟨⟨t.rooms, t.ds, t.d, t.w⟩, rfl, ⟨h0, h1⟩, fun n s hs => ⟨_, hs, ?_⟩⟩
  walk_at "nrm"
  walk_at "de"
  walk_at "nrm"
  have get : ∀ {F : List Int} {i : Nat}, i < F.length → (F.map PyData.int)[i]? = some (.int (F.getD i 0)) := fun {F i} h => by
    rw [List.getElem?_map, List.getD_eq_getElem?_getD, List.getElem?_eq_getElem h]; rfl
  refine ds_seq (ds_augSI rfl ?_)
  walk_at "de"
  refine ⟨_, _, rfl, get (by rw [hF]; exact o1), ?_⟩
  walk_at "de"
  rw [show (t.F.map PyData.int).set (outOf t.ds (t.d, t.w)) (.int (t.F.getD (outOf t.ds (t.d, t.w)) 0 - 1)) = (t.F.set (outOf t.ds (t.d, t.w)) (t.F.getD (outOf t.ds (t.d, t.w)) 0 - 1)).map .int from (List.map_set ..).symm]
  walk_at "nrm"
  refine ds_augSI rfl ?_
  walk_at "de"
  refine ⟨_, _, rfl, get (by rw [List.length_set, hF]; exact o2), ?_⟩
  walk_at "de"
  show _ = (stepTo t.ds t.F (t.d, t.w)).map PyData.int
  simp only [stepTo, List.map_set]
/-- what is wrong with a row, by the law's own order -/
theorem step_len {ds : List (Nat × Nat)} {F : List Int} {x : Gg} : (stepTo ds F x).length = F.length := by
  unfold stepTo; rw [List.length_set, List.length_set]
end
end Bd
namespace Bd
open PySem PySem.Spec PyProof.Rows L2 HT
local macro_rules | `(tactic| walk_at "de1") => `(tactic| (with_reducible first
  | refine dI_var rfl ?_ | refine dI_c ?_ | refine dI_op0 ?_ | refine dI_op ?_ | refine dI_un ?_ | refine dI_ixO rfl ?_ | refine dI_ixT ?_ | refine dI_ixL ?_ | refine dI_if ?_ | refine dI_lenO rfl ?_ | refine dI_lenL ?_ | refine dI_abs ?_ | refine dI_two ?_ | refine dI_intB ?_
  | refine dB_var rfl ?_ | refine dB_c ?_ | refine dB_op0 ?_ | refine dB_eqI ?_ | refine dB_neI ?_ | refine dB_inI ?_ | refine dB_not ?_ | refine dB_and ?_ | refine dB_or ?_ | refine dB_chain ?_ | refine dB_eqD ?_ | refine dB_neD ?_ | refine dB_isi ?_
  | refine dL_var rfl ?_ | refine dL_ixO rfl ?_ | refine dL_ixT ?_ | refine dL_ixL ?_ | refine dL_o ?_
  | refine dT_var rfl ?_ | refine dT_ixL ?_ | refine dT_ixT ?_ | refine dT_tup ?_ | refine dT_slT ?_ | refine dT_catT ?_
  | refine de_var rfl ?_ | refine dX_ixO rfl ?_ | refine dX_ixT ?_ | refine dX_ixL ?_ | refine de_tup ?_ | refine de_c rfl ?_ | refine de_if ?_ | refine Do.de (do_lst ?_) | refine de_catTT ?_ | refine de_slTT ?_
  | refine dI_e (dI_op0 ?_) | refine dI_e (dI_op ?_) | refine dI_e (dI_un ?_) | refine dI_e (dI_lenO rfl ?_) | refine dI_e (dI_lenL ?_) | refine dI_e (dI_abs ?_) | refine dI_e (dI_two ?_) | refine dI_e (dI_intB ?_)
  | refine dB_e (dB_op0 ?_) | refine dB_e (dB_eqI ?_) | refine dB_e (dB_neI ?_) | refine dB_e (dB_inI ?_) | refine dB_e (dB_not ?_) | refine dB_e (dB_and ?_) | refine dB_e (dB_or ?_) | refine dB_e (dB_chain ?_) | refine dB_e (dB_eqD ?_) | refine dB_e (dB_neD ?_)
  | refine dt_tB ?_ | refine dt_tTest ?_ | refine dt_not ?_ | refine dt_and ?_ | refine dt_or ?_ | refine dt_yes ?_
  | refine da_nil ?_ | refine da_cons ?_ | refine dp_no ?_ | refine dp_partI ?_
  | refine di_rngI ?_ | refine di_listL ?_ | refine di_zipL ?_ | refine di_enumL ?_
  | refine do_lck rfl ?_ | refine do_lst ?_ | refine do_catL ?_ | refine do_slLL ?_ | refine do_revL ?_
  | refine dg_nm rfl ?_ | refine dg_name rfl (by simp) ?_ | refine dg_tup rfl ?_ | refine dgs_cons ?_ | refine dgs_nil ?_))
local macro_rules | `(tactic| walk_at "de") => `(tactic| (repeat (first | walk_at "de1" | (refine ⟨_, rfl, ?_⟩))))
local macro_rules | `(tactic| walk_at "nrm") => `(tactic| (try dsimp only [List.set, toD, wipeR, List.map, pairD, beadD, lookD]))

abbrev sStoryRight : Stmt := topS 12
theorem scStoryRight : FnScope ["house", "begin", "tape", "ways", "beads", "looks", "numbers", "behind", "door", "seen", "way", "moment", "room", "least", "most"] ["house", "begin", "tape", "ways"] (defScope sStoryRight) := ⟨rfl, rfl, rfl, by decide +kernel, rfl, by decide +kernel, by decide +kernel⟩
/-- whether this bead may be gone so now -/
def stepOk (ds : List (Nat × Nat)) (F : List Int) (b : Bead) (w : Int) : Bool := decide (w = 0 ∨ w = 1) && decide (b.2 = -1 ∨ b.2 = w) && decide (1 ≤ F.getD (outOf ds (b.1, w)) 0)
/-- the numbers behind each bead, gone by these ways; none where it can't be gone so -/
def treadR (ds : List (Nat × Nat)) : List Bead → List Int → List Int → List (List Int) → Option (List (List Int))
  | b :: bs, w :: ws, F, R => if stepOk ds F b w = true then treadR ds bs ws (stepTo ds F (b.1, w)) (R ++ [stepTo ds F (b.1, w)]) else none
  | _, _, _, R => some R
def seenAt (R : List (List Int)) (l : Lk) : Int := (R.getD l.1.toNat []).getD l.2.1.toNat 0
def lookRight (R : List (List Int)) (l : Lk) : Bool := decide (l.2.2.1 ≤ seenAt R l) && decide (seenAt R l ≤ l.2.2.2)
structure Ss where
  rooms : Nat
  ds : List (Nat × Nat)
  B : List Int
  bs : List Bead
  ls : List Lk
  ws : List Int
def storyB (t : Ss) : Bool := decide (t.ws.length = t.bs.length) && match treadR t.ds t.bs t.ws t.B [t.B] with
  | some R => t.ls.all (lookRight R)
  | none => false
structure Ss.Ok (t : Ss) : Prop where
  doors : Doors t.rooms t.ds
  lB : t.B.length = t.rooms
  beads : ∀ b ∈ t.bs, b.1 < t.ds.length
  looks : ∀ l ∈ t.ls, 0 ≤ l.1 ∧ l.1 ≤ t.bs.length ∧ 0 ≤ l.2.1 ∧ l.2.1 < t.rooms
  lb : t.bs.length ≤ 10000
  ll : t.ls.length ≤ 10000
  lw : t.ws.length ≤ 10000
def Ss.arg (t : Ss) : List PyData := [houseD t.rooms t.ds, intsD t.B, tapeD t.bs t.ls, intsD t.ws]
def spStory (K : PySem.W.Frag) : Sp := spD K Wn [] Ss.arg (fun t _ => t.Ok) (fun t _ _ s => s = .d (.bool (storyB t)))
theorem treadR_step {ds : List (Nat × Nat)} {bs : List Bead} {ws : List Int} {i : Nat} {b : Bead} {w : Int} {F : List Int} {R : List (List Int)} (h : bs[i]? = some b) (h' : ws[i]? = some w) :
    treadR ds (bs.drop i) (ws.drop i) F R = if stepOk ds F b w = true then treadR ds (bs.drop (i + 1)) (ws.drop (i + 1)) (stepTo ds F (b.1, w)) (R ++ [stepTo ds F (b.1, w)]) else none := by
  have e : bs.drop i = b :: bs.drop (i + 1) := by
    rw [List.drop_eq_getElem_cons (lt_of_at h)]
    congr 1
    have := List.getElem?_eq_getElem (lt_of_at h)
    rw [h] at this
    exact (Option.some.inj this).symm
  have e' : ws.drop i = w :: ws.drop (i + 1) := by
    rw [List.drop_eq_getElem_cons (lt_of_at h')]
    congr 1
    have := List.getElem?_eq_getElem (lt_of_at h')
    rw [h'] at this
    exact (Option.some.inj this).symm
  rw [e, e']; rfl
theorem treadR_end {ds : List (Nat × Nat)} {F : List Int} {R : List (List Int)} : treadR ds [] [] F R = some R := rfl
theorem rows_at {R : List (List Int)} {r : Int} (h0 : 0 ≤ r) (h1 : r < R.length) : atD (R.map intsD) r = some (intsD (R.getD r.toNat [])) := by
  obtain ⟨a, e, e'⟩ := at_lt (f := intsD) h0 h1
  rw [e, List.getD_eq_getElem?_getD, e']; rfl
theorem rows_len {R : List (List Int)} {n : Nat} (h : ∀ G ∈ R, G.length = n) {i : Nat} (hi : i < R.length) : (R.getD i []).length = n := by
  rw [List.getD_eq_getElem?_getD, List.getElem?_eq_getElem hi]
  exact h _ (List.getElem_mem _)
theorem way_of {w : Int} (h : w = 0 ∨ w = 1) : 0 ≤ w ∧ w ≤ 1 := by omega
section
variable {P : Program} {w : World} {K : PySem.W.Frag} {mg : Str → Option Value} {base : Heap}
theorem ok_story {f : Addr} {fd : FuncData} (F : Fun K "story_right" "story_right" sStoryRight f fd) (cal_through : Cg P w K mg base 1 "through" (spThrough K)) (cal_go : Cg P w K mg base 2 "go" (spGo K)) (m_len : mg "len" = none) (m_list : mg "list" = none) (m_zip : mg "zip" = none) (m_all : mg "all" = none) : FnG P w K mg base 3 f fd ["house", "begin", "tape", "ways"] (spStory K) := by
  have sc := scStoryRight
  refine fnG_of F scStoryRight (fun vs H Q E h => spD_len h fun i => rfl) (fun cdv A outer s H vs Q E hr hg h => ?_)
  refine ⟨_, (pss_cons (ps_asg (pv 2) (pg_tup (by rfl) (pgs_cons (pg_name (i := 4) sc.nd rfl (.inl rfl)) (pgs_cons (pg_name (i := 5) sc.nd rfl (.inl rfl)) pgs_nil))))
  (pss_cons (ps_if (pt_cmpR op_ne (pe_callB call_len_seq (by rfl) m_len PySem.boot_len (pa_cons (pv 3) pa_nil)) (pe_callB call_len_seq (by rfl) m_len PySem.boot_len (pa_cons (pv 4) pa_nil)) (nomark _))
    (pss_one (ps_ret pe_bl))
    pss_nil)
  (pss_cons (ps_set (i := 6) sc.nd rfl (.inl rfl) (pe_callTy call_list_of (by rfl) m_list (by decide +kernel) (pa_cons (pv 1) pa_nil)))
  (pss_cons (ps_set (i := 7) sc.nd rfl (.inr rfl) (pe_lst (pa_cons (pv 1) pa_nil)))
  (pss_cons (ps_for PassesOwn.never rfl (pi_zip (by rfl) m_zip (pa_cons (pv 4) (pa_cons (pv 3) pa_nil))) (pg_tup (by rfl) (pgs_cons (pg_tup (by rfl) (pgs_cons (pg_name (i := 8) sc.nd rfl (.inl rfl)) (pgs_cons (pg_name (i := 9) sc.nd rfl (.inl rfl)) pgs_nil))) (pgs_cons (pg_name (i := 10) sc.nd rfl (.inl rfl)) pgs_nil)))
    (pss_cons (ps_if (PW.pt (pw_or (pt_cmpR op_notIn_seq (pv 10) (pe_tup (pa_cons pe_int (pa_cons pe_int pa_nil))) rfl) (pw_or (pt_cmpR op_notIn_seq (pv 9) (pe_tup (pa_cons (pe_un un_neg pe_int) (pa_cons (pv 10) pa_nil))) rfl) (pw_or1 (pt_cmpR op_lt (pe_ix ix_list (pv 6) (pe_ix ix_tup (pe_g cal_through hg hr (by first | decide | exact Nat.le_refl _ | omega) (by rfl) (pa_cons (pv 0) (pa_cons (pv 8) (pa_cons (pv 10) pa_nil)))) pe_int (fun _ _ => rfl)) (fun _ _ => rfl)) pe_int (nomark _))))))
    (pss_one (ps_ret pe_bl))
    pss_nil)
  (pss_cons (ps_expr (pe_g cal_go hg hr (by first | decide | exact Nat.le_refl _ | omega) (by rfl) (pa_cons (pv 0) (pa_cons (pv 6) (pa_cons (pv 8) (pa_cons (pv 10) pa_nil))))))
  (pss_one (ps_expr (pe_bm PySem.F.plainAttrs_list PySem.F.slot_list_append PySem.F.type_list_append mt_append (pv 7) (pa_cons (pe_callTy call_list_of (by rfl) m_list (by decide +kernel) (pa_cons (pv 6) pa_nil)) pa_nil)))))))
  (pss_one (ps_ret (pe_callB (cr_all rfl) (by rfl) m_all (by decide +kernel) (pa_cons (pe_lc (own := [("moment", 11), ("room", 12), ("least", 13), ("most", 14)]) (g := gTup K 4 (gCons (gName 11) (gCons (gName 12) (gCons (gName 13) (gCons (gName 14) gNil))))) (tt := tYes) (by rfl) sc.nd  (pi_list (pv 5)) (blkOk_by (own := [("moment", 11), ("room", 12), ("least", 13), ("most", 14)]) (N := ["house", "begin", "tape", "ways", "beads", "looks", "numbers", "behind", "door", "seen", "way", "moment", "room", "least", "most"]) (sc := defScope sStoryRight) (by decide +kernel)) (fun _ _ _ _ _ => (pg_tup (by rfl) (pgs_cons (pg_name (i := 11) sc.nd rfl (.inl rfl)) (pgs_cons (pg_name (i := 12) sc.nd rfl (.inl rfl)) (pgs_cons (pg_name (i := 13) sc.nd rfl (.inl rfl)) (pgs_cons (pg_name (i := 14) sc.nd rfl (.inl rfl)) pgs_nil)))))) (fun _ _ _ _ _ => pts_nil) (fun _ _ _ _ _ => (pe_chain op_le op_le (pv 13) (pe_ix (ixK (rIxL K) ix_list) (pe_ix (ixK (rIxL K) ix_list) (pv 7) (pv 11) (fun _ _ => rfl)) (pv 12) (fun _ _ => rfl)) (pv 14)))) pa_nil))))))))), ?_⟩
  dsimp only [cxOf, L2.Cx.nox]
  refine fn_ds (fun t => [.d (houseD t.rooms t.ds), .d (intsD t.B), .d (tapeD t.bs t.ls), .d (intsD t.ws), .un, .un, .un, .un, .un, .un, .un, .un, .un, .un, .un]) h (fun i => rfl) fun t ν ok => ?_
  have fin : ∀ {b : Bool}, storyB t = b → Sl.d (.bool b) = Sl.d (.bool (storyB t)) := fun h => by rw [h]
  refine ds_seq (ds_asg (de_var rfl (dg_tup rfl ?_)))
  walk_at "de"
  walk_at "nrm"
  refine ds_seq (ds_if ?_)
  walk_at "de"
  rw [List.length_map, List.length_map]
  refine ⟨fun e => ds_ret (de_c rfl (fin ?_)), fun e => ds_next ?_⟩
  · have e' : ¬ t.ws.length = t.bs.length := fun z => by rw [z] at e; simp at e
    unfold storyB
    rw [decide_eq_false e', Bool.false_and]
  have hlen : t.ws.length = t.bs.length := by
    have : (t.ws.length : Int) = t.bs.length := by simpa using e
    omega
  refine ds_seq (ds_setO rfl (by simp) (do_list (de_var rfl ⟨_, .inl rfl, fun An => ?_⟩)))
  walk_at "nrm"
  refine ds_seq (ds_setO rfl (by simp) (do_lst (da_cons (de_var rfl (da_nil ⟨szd rfl, fun Ab => ?_⟩)))))
  walk_at "nrm"
  refine ds_seq (ds_fork ?_)
  walk_at "de"
  rw [zipD_map]
  refine forW [8, 9, 10] (fun p : Bead × Int => .tuple [beadD p.1, .int p.2]) (t.bs.zip t.ws) rfl 0 (fun i r => ∃ (F : List Int) (R : List (List Int)), treadR t.ds t.bs t.ws t.B [t.B] = treadR t.ds (t.bs.drop i) (t.ws.drop i) F R ∧ F.length = t.rooms ∧ R.length = i + 1 ∧ (∀ G ∈ R, G.length = t.rooms) ∧ r = [.d (houseD t.rooms t.ds), .d (intsD t.B), .d (tapeD t.bs t.ls), .d (intsD t.ws), .d (.list (t.bs.map beadD)), .d (.list (t.ls.map lookD)), .own An (F.map .int), .own Ab (R.map intsD), .un, .un, .un, .un, .un, .un, .un]) rfl ⟨t.B, [t.B], rfl, ok.lB, rfl, (fun G hG => by rw [List.mem_singleton] at hG; rw [hG]; exact ok.lB), rfl⟩ (fun i p ν1 r0 hp hν hI => ?_) (fun ν2 ρ' hν hv hI => ?_)
  · obtain ⟨F, R, hg, hF, hR, hRR, rfl⟩ := hI
    obtain ⟨⟨d, sn⟩, wy⟩ := p
    obtain ⟨eb, ew⟩ := zip_get hp
    dsimp only at eb ew
    have hd := ok.beads _ (List.mem_of_getElem? eb)
    have hd : d < t.ds.length := hd
    have hi := lt_of_at eb
    obtain ⟨o1, o2⟩ := rooms_of ok.doors (x := ((d : Int), wy)) (by show (0 : Int) ≤ (d : Int); omega) (by show (d : Int) < (t.ds.length : Int); omega)
    rw [treadR_step eb ew] at hg
    have bad : stepOk t.ds F (d, sn) wy = false → storyB t = false := fun h => by
      rw [h, if_neg (by decide)] at hg
      unfold storyB
      rw [hg, Bool.and_false]
    walk_at "nrm"
    walk_at "de"
    walk_at "nrm"
    refine ds_seq (ds_if (dt_or ?_))
    walk_at "de"
    refine ⟨szd rfl, [0, 1], .inr rfl, fun e1 => ⟨fun _ => ds_ret (de_c rfl (fin (bad ?_))), fun z => by cases z⟩, fun e1 => dt_or ?_⟩
    · have e1 : ¬ (wy = 0 ∨ wy = 1) := by simpa using e1
      unfold stepOk
      rw [decide_eq_false e1, Bool.false_and, Bool.false_and]
    have e1 : wy = 0 ∨ wy = 1 := by
      have : ¬ ¬ (wy = 0 ∨ wy = 1) := by simpa using e1
      omega
    walk_at "de"
    refine ⟨szd rfl, [-1, wy], .inr rfl, fun e2 => ⟨fun _ => ds_ret (de_c rfl (fin (bad ?_))), fun z => by cases z⟩, fun e2 => ?_⟩
    · have e2 : ¬ (sn = -1 ∨ sn = wy) := by simpa using e2
      unfold stepOk
      rw [decide_eq_false (show ¬ ((d, sn).2 = -1 ∨ (d, sn).2 = wy) from e2), Bool.and_false, Bool.false_and]
    have e2 : sn = -1 ∨ sn = wy := by
      have : ¬ ¬ (sn = -1 ∨ sn = wy) := by simpa using e2
      omega
    refine dt_tTest (dB_op0 (dI_ixO rfl (dI_ixT (dT_call0 ?_))))
    walk_at "de"
    refine ⟨⟨t.rooms, t.ds, d, wy⟩, rfl, ⟨by show (0 : Int) ≤ (d : Int); omega, by show (d : Int) < (t.ds.length : Int); omega⟩, fun n s hs => ⟨_, hs, ?_⟩⟩
    walk_at "de"
    refine ⟨_, atD_ints (by rw [hF]; exact o1), ?_⟩
    walk_at "de"
    refine ⟨fun e3 => ds_ret (de_c rfl (fin (bad ?_))), fun e3 => ds_next ?_⟩
    · have e3 : F.getD (outOf t.ds ((d : Int), wy)) 0 < 1 := of_decide_eq_true e3
      unfold stepOk
      rw [decide_eq_false (show ¬ (1 ≤ F.getD (outOf t.ds (((d, sn) : Bead).1, wy)) 0) by show ¬ (1 ≤ F.getD (outOf t.ds ((d : Int), wy)) 0); omega), Bool.and_false]
    have e3 : ¬ F.getD (outOf t.ds ((d : Int), wy)) 0 < 1 := of_decide_eq_false e3
    have good : stepOk t.ds F (d, sn) wy = true := by
      unfold stepOk
      rw [decide_eq_true e1, decide_eq_true (show (d, sn).2 = -1 ∨ (d, sn).2 = wy from e2), decide_eq_true (show 1 ≤ F.getD (outOf t.ds (((d, sn) : Bead).1, wy)) 0 by show 1 ≤ F.getD (outOf t.ds ((d : Int), wy)) 0; omega)]
      rfl
    rw [good, if_pos rfl] at hg
    refine ds_seq (ds_callO rfl ?_)
    walk_at "de"
    refine ⟨⟨t.rooms, t.ds, F, d, wy⟩, rfl, rfl, rfl, ⟨ok.doors, hF, by show (0 : Int) ≤ (d : Int); omega, by show (d : Int) < (t.ds.length : Int); omega⟩, fun ys hy => ?_⟩
    rw [hy]
    walk_at "nrm"
    refine ds_append rfl (Do.de (do_listO rfl ?_))
    refine ⟨szL (n := (R.map intsD).length) (by rw [List.length_map, hR]; have := ok.lb; omega), ?_⟩
    walk_at "nrm"
    refine ⟨by omega, rfl, stepTo t.ds F ((d : Int), wy), R ++ [stepTo t.ds F ((d : Int), wy)], hg, by rw [step_len, hF], by rw [List.length_append, hR]; rfl, fun G hG => ?_, ?_⟩
    · rcases List.mem_append.mp hG with h | h
      · exact hRR G h
      · rw [List.mem_singleton] at h; rw [h, step_len, hF]
    · rw [List.map_append]; rfl
  · obtain ⟨F, R, hg, hF, hR, hRR, eR⟩ := hI
    have hz : (t.bs.zip t.ws).length = t.bs.length := by rw [List.length_zip, hlen, Nat.min_self]
    rw [hz, List.drop_of_length_le (Nat.le_refl _), List.drop_of_length_le (by rw [hlen]; exact Nat.le_refl _)] at hg
    have hg : treadR t.ds t.bs t.ws t.B [t.B] = some R := hg
    rw [hz] at hR
    refine ds_wipe [8, 9, 10] hv ?_
    rw [eR]
    refine ds_ret (de_all (Do.de (do_lck rfl ?_)))
    walk_at "de"
    refine lcM lookD t.ls (fun l => .bool (lookRight R l)) (small_of ok.ll (by decide)) rfl (fun l hl => ?_) ?_
    · obtain ⟨l0, l1, l2, l3⟩ := ok.looks l hl
      have eat := rows_at (R := R) l0 (by omega)
      have hG := rows_len hRR (i := l.1.toNat) (by omega)
      have ert := atD_int (F := R.getD l.1.toNat []) l2 (by rw [hG]; exact l3)
      walk_at "nrm"
      walk_at "de"
      refine ⟨_, eat, ?_⟩
      walk_at "de"
      refine ⟨_, ert, ?_⟩
      refine ⟨fun e => ?_, fun e => ⟨rfl, ?_⟩⟩
      · walk_at "de"
        refine ⟨rfl, ?_⟩
        unfold lookRight seenAt
        rw [e, Bool.true_and]
      · unfold lookRight seenAt
        rw [e, Bool.false_and]
    · refine ⟨t.ls.map (lookRight R), by rw [List.map_map]; rfl, ?_⟩
      rw [List.all_map]
      refine fin ?_
      unfold storyB
      rw [hg, decide_eq_true hlen, Bool.true_and]
      rfl
end
end Bd
namespace Bd
open PySem PySem.Spec PyProof.Rows L2 HT
local macro_rules | `(tactic| walk_at "de1") => `(tactic| (with_reducible first
  | refine dI_var rfl ?_ | refine dI_c ?_ | refine dI_op0 ?_ | refine dI_op ?_ | refine dI_un ?_ | refine dI_ixO rfl ?_ | refine dI_ixT ?_ | refine dI_ixL ?_ | refine dI_if ?_ | refine dI_lenO rfl ?_ | refine dI_lenL ?_ | refine dI_abs ?_ | refine dI_two ?_ | refine dI_intB ?_
  | refine dB_var rfl ?_ | refine dB_c ?_ | refine dB_op0 ?_ | refine dB_eqI ?_ | refine dB_neI ?_ | refine dB_inI ?_ | refine dB_not ?_ | refine dB_and ?_ | refine dB_or ?_ | refine dB_chain ?_ | refine dB_eqD ?_ | refine dB_neD ?_ | refine dB_isi ?_
  | refine dL_var rfl ?_ | refine dL_ixO rfl ?_ | refine dL_ixT ?_ | refine dL_ixL ?_ | refine dL_o ?_
  | refine dT_var rfl ?_ | refine dT_ixL ?_ | refine dT_ixT ?_ | refine dT_tup ?_ | refine dT_slT ?_ | refine dT_catT ?_
  | refine de_var rfl ?_ | refine dX_ixO rfl ?_ | refine dX_ixT ?_ | refine dX_ixL ?_ | refine de_tup ?_ | refine de_c rfl ?_ | refine de_if ?_ | refine Do.de (do_lst ?_) | refine de_catTT ?_ | refine de_slTT ?_
  | refine dI_e (dI_op0 ?_) | refine dI_e (dI_op ?_) | refine dI_e (dI_un ?_) | refine dI_e (dI_lenO rfl ?_) | refine dI_e (dI_lenL ?_) | refine dI_e (dI_abs ?_) | refine dI_e (dI_two ?_) | refine dI_e (dI_intB ?_)
  | refine dB_e (dB_op0 ?_) | refine dB_e (dB_eqI ?_) | refine dB_e (dB_neI ?_) | refine dB_e (dB_inI ?_) | refine dB_e (dB_not ?_) | refine dB_e (dB_and ?_) | refine dB_e (dB_or ?_) | refine dB_e (dB_chain ?_) | refine dB_e (dB_eqD ?_) | refine dB_e (dB_neD ?_)
  | refine dt_tB ?_ | refine dt_tTest ?_ | refine dt_not ?_ | refine dt_and ?_ | refine dt_or ?_ | refine dt_yes ?_
  | refine da_nil ?_ | refine da_cons ?_ | refine dp_no ?_ | refine dp_partI ?_
  | refine di_rngI ?_ | refine di_listL ?_ | refine di_zipL ?_ | refine di_enumL ?_
  | refine do_lck rfl ?_ | refine do_lst ?_ | refine do_catL ?_ | refine do_slLL ?_ | refine do_revL ?_
  | refine dg_nm rfl ?_ | refine dg_name rfl (by simp) ?_ | refine dg_tup rfl ?_ | refine dgs_cons ?_ | refine dgs_nil ?_))
local macro_rules | `(tactic| walk_at "de") => `(tactic| (repeat (first | walk_at "de1" | (refine ⟨_, rfl, ?_⟩))))
local macro_rules | `(tactic| walk_at "nrm") => `(tactic| (try dsimp only [List.set, toD, wipeR, List.map, pairD, beadD, lookD]))

abbrev sLawStands : Stmt := topS 26
theorem scLawStands : FnScope ["home", "start", "reel", "track", "rows", "k", "bead", "here", "pair", "look"] ["home", "start", "reel", "track"] (defScope sLawStands) := ⟨rfl, rfl, rfl, by decide +kernel, rfl, by decide +kernel, by decide +kernel⟩
/-- the law's own judge: its beginnings have no number below 0 -/
def spStands (K : PySem.W.Frag) : Sp := spD K Wn [] Ss.arg (fun t _ => t.Ok ∧ ∀ x ∈ t.B, 0 ≤ x) (fun t _ _ s => s = .d (.bool (storyB t)))
theorem getD_nn {F : List Int} (h : ∀ x ∈ F, 0 ≤ x) (i : Nat) : 0 ≤ F.getD i 0 := by
  rw [List.getD_eq_getElem?_getD]
  cases c : F[i]? with
  | none => exact Int.le_refl 0
  | some x => exact h x (List.mem_of_getElem? c)
theorem step_nn {ds : List (Nat × Nat)} {F : List Int} {x : Gg} (h : ∀ y ∈ F, 0 ≤ y) (hp : 1 ≤ F.getD (outOf ds x) 0) : ∀ y ∈ stepTo ds F x, 0 ≤ y := by
  have h1 : ∀ y ∈ F.set (outOf ds x) (F.getD (outOf ds x) 0 - 1), 0 ≤ y := set_all h (by omega)
  have := getD_nn h1 (intoOf ds x)
  exact set_all h1 (by omega)
theorem step_out {ds : List (Nat × Nat)} {F : List Int} {x : Gg} (hne : outOf ds x ≠ intoOf ds x) (ho : outOf ds x < F.length) : F.getD (outOf ds x) 0 - 1 ∈ stepTo ds F x := by
  have : (stepTo ds F x)[outOf ds x]? = some (F.getD (outOf ds x) 0 - 1) := by
    unfold stepTo
    rw [List.getElem?_set_ne (Ne.symm hne), List.getElem?_set_self ho]
  exact List.mem_of_getElem? this
theorem rooms_ne {rooms : Nat} {ds : List (Nat × Nat)} (hD : Doors rooms ds) {x : Gg} (h0 : 0 ≤ x.1) (h1 : x.1 < ds.length) : outOf ds x ≠ intoOf ds x := by
  obtain ⟨a, e, e'⟩ := at_lt (f := pairD) h0 h1
  have := hD a (List.mem_of_getElem? e')
  unfold outOf intoOf
  rw [List.getD_eq_getElem?_getD, e']
  show (if x.2 = 0 then a.1 else a.2) ≠ (if x.2 = 0 then a.2 else a.1)
  split <;> omega
/-- the two rooms of a way -/
theorem pair_out {ds : List (Nat × Nat)} {d w : Int} (hw : w = 0 ∨ w = 1) : atD [.int (ds.getD d.toNat (0, 0)).1, .int (ds.getD d.toNat (0, 0)).2] w = some (.int (outOf ds (d, w) : Int)) := by
  rcases hw with rfl | rfl <;> rfl
theorem pair_into {ds : List (Nat × Nat)} {d w : Int} (hw : w = 0 ∨ w = 1) : atD [.int (ds.getD d.toNat (0, 0)).1, .int (ds.getD d.toNat (0, 0)).2] (1 - w) = some (.int (intoOf ds (d, w) : Int)) := by
  rcases hw with rfl | rfl <;> rfl
section
variable {P : Program} {w : World} {K : PySem.W.Frag} {mg : Str → Option Value} {base : Heap}
theorem ok_stands {f : Addr} {fd : FuncData} (F : Fun K "_law_stands" "_law_stands" sLawStands f fd) (m_len : mg "len" = none) (m_list : mg "list" = none) (m_enumerate : mg "enumerate" = none) (m_min : mg "min" = none) : FnG P w K mg base 1 f fd ["home", "start", "reel", "track"] (spStands K) := by
  have sc := scLawStands
  refine fnG_of F scLawStands (fun vs H Q E h => spD_len h fun i => rfl) (fun cdv A outer s H vs Q E hr hg h => ?_)
  refine ⟨_, (pss_cons (ps_if (pt_cmpR op_ne (pe_callB call_len_seq (by rfl) m_len PySem.boot_len (pa_cons (pv 3) pa_nil)) (pe_callB call_len_seq (by rfl) m_len PySem.boot_len (pa_cons (pe_ix ix_tup (pv 2) pe_int (fun _ _ => rfl)) pa_nil)) (nomark _))
    (pss_one (ps_ret pe_bl))
    pss_nil)
  (pss_cons (ps_set (i := 4) sc.nd rfl (.inr rfl) (pe_lst (pa_cons (pe_callTy call_list_of (by rfl) m_list (by decide +kernel) (pa_cons (pv 1) pa_nil)) pa_nil)))
  (pss_cons (ps_for PassesOwn.never rfl (pi_enum (by rfl) m_enumerate (pa_cons (pe_ix ix_tup (pv 2) pe_int (fun _ _ => rfl)) pa_nil)) (pg_tup (by rfl) (pgs_cons (pg_name (i := 5) sc.nd rfl (.inl rfl)) (pgs_cons (pg_name (i := 6) sc.nd rfl (.inl rfl)) pgs_nil)))
    (pss_cons (ps_if (PW.pt (pw_or (pt_cmpR op_notIn_seq (pe_ix ix_list (pv 3) (pv 5) (fun _ _ => rfl)) (pe_lst (pa_cons pe_int (pa_cons pe_int pa_nil))) rfl) (pw_or1 (pt_cmpR op_notIn_seq (pe_ix ix_tup (pv 6) pe_int (fun _ _ => rfl)) (pe_lst (pa_cons (pe_un un_neg pe_int) (pa_cons (pe_ix ix_list (pv 3) (pv 5) (fun _ _ => rfl)) pa_nil))) rfl))))
    (pss_one (ps_ret pe_bl))
    pss_nil)
  (pss_cons (ps_set (i := 7) sc.nd rfl (.inl rfl) (pe_callTy call_list_of (by rfl) m_list (by decide +kernel) (pa_cons (pe_ix ix_list (pv 4) (pv 5) (fun _ _ => rfl)) pa_nil)))
  (pss_cons (ps_set (i := 8) sc.nd rfl (.inl rfl) (pe_ix ix_list (pe_ix ix_tup (pv 0) pe_int (fun _ _ => rfl)) (pe_ix ix_tup (pv 6) pe_int (fun _ _ => rfl)) (fun _ _ => rfl)))
  (pss_cons (ps_asg (pe_op op_sub (pe_ix ix_list (pv 7) (pe_ix ix_tup (pv 8) (pe_ix ix_list (pv 3) (pv 5) (fun _ _ => rfl)) (fun _ _ => rfl)) (fun _ _ => rfl)) pe_int) (pg_sub (pv 7) (pe_ix ix_tup (pv 8) (pe_ix ix_list (pv 3) (pv 5) (fun _ _ => rfl)) (fun _ _ => rfl)) set_list))
  (pss_cons (ps_asg (pe_op op_add (pe_ix ix_list (pv 7) (pe_ix ix_tup (pv 8) (pe_op op_sub pe_int (pe_ix ix_list (pv 3) (pv 5) (fun _ _ => rfl))) (fun _ _ => rfl)) (fun _ _ => rfl)) pe_int) (pg_sub (pv 7) (pe_ix ix_tup (pv 8) (pe_op op_sub pe_int (pe_ix ix_list (pv 3) (pv 5) (fun _ _ => rfl))) (fun _ _ => rfl)) set_list))
  (pss_cons (ps_if (pt_cmpR op_lt (pe_callB (cr_min rfl) (by rfl) m_min (by decide +kernel) (pa_cons (pv 7) pa_nil)) pe_int (nomark _))
    (pss_one (ps_ret pe_bl))
    pss_nil)
  (pss_one (ps_expr (pe_bm PySem.F.plainAttrs_list PySem.F.slot_list_append PySem.F.type_list_append mt_append (pv 4) (pa_cons (pv 7) pa_nil)))))))))))
  (pss_one (ps_ret (pe_cmpR (op_eqD hr.units) (pe_lc (own := [("look", 9)]) (g := gName 9)  (by rfl) sc.nd  (pi_list (pe_ix ix_tup (pv 2) pe_int (fun _ _ => rfl))) (blkOk_by (own := [("look", 9)]) (N := ["home", "start", "reel", "track", "rows", "k", "bead", "here", "pair", "look"]) (sc := defScope sLawStands) (by decide +kernel)) (fun _ _ _ _ _ => (pg_name (i := 9) sc.nd rfl (.inl rfl))) (fun _ _ _ _ _ => (pts_one (pt_not (pt_chain op_le op_le (pe_ix (ixK (rIxT K) ix_tup) (pv 9) pe_int (fun _ _ => rfl)) (pe_ix (ixK (rIxL K) ix_list) (pe_ix (ixK (rIxL K) ix_list) (pv 4) (pe_ix (ixK (rIxT K) ix_tup) (pv 9) pe_int (fun _ _ => rfl)) (fun _ _ => rfl)) (pe_ix (ixK (rIxT K) ix_tup) (pv 9) pe_int (fun _ _ => rfl)) (fun _ _ => rfl)) (pe_ix (ixK (rIxT K) ix_tup) (pv 9) pe_int (fun _ _ => rfl)))))) (fun _ _ _ _ _ => (pv 9))) (pe_lst pa_nil) (nomark _))))))), ?_⟩
  dsimp only [cxOf, L2.Cx.nox]
  refine fn_ds (fun t => [.d (houseD t.rooms t.ds), .d (intsD t.B), .d (tapeD t.bs t.ls), .d (intsD t.ws), .un, .un, .un, .un, .un, .un]) h (fun i => rfl) fun t ν ok => ?_
  obtain ⟨ok, hN⟩ := ok
  have fin : ∀ {b : Bool}, storyB t = b → Sl.d (.bool b) = Sl.d (.bool (storyB t)) := fun h => by rw [h]
  refine ds_seq (ds_if ?_)
  walk_at "de"
  rw [List.length_map, List.length_map]
  refine ⟨fun e => ds_ret (de_c rfl (fin ?_)), fun e => ds_next ?_⟩
  · have e' : ¬ t.ws.length = t.bs.length := fun z => by rw [z] at e; simp at e
    unfold storyB
    rw [decide_eq_false e', Bool.false_and]
  have hlen : t.ws.length = t.bs.length := by
    have : (t.ws.length : Int) = t.bs.length := by simpa using e
    omega
  refine ds_seq (ds_setO rfl (by simp) (do_lst (da_cons (Do.de (do_list (de_var rfl ⟨_, .inl rfl, da_nil ⟨szd rfl, fun Ar => ?_⟩⟩))))))
  walk_at "nrm"
  refine ds_seq (ds_fork ?_)
  walk_at "de"
  rw [enumD_map]
  refine forW [5, 6, 7, 8] (fun p : Bead × Nat => .tuple [.int (p.2 : Int), beadD p.1]) t.bs.zipIdx rfl 0 (fun i r => ∃ (F : List Int) (R : List (List Int)), treadR t.ds t.bs t.ws t.B [t.B] = treadR t.ds (t.bs.drop i) (t.ws.drop i) F R ∧ F.length = t.rooms ∧ (∀ x ∈ F, 0 ≤ x) ∧ R.length = i + 1 ∧ R[i]? = some F ∧ (∀ G ∈ R, G.length = t.rooms) ∧ r = [.d (houseD t.rooms t.ds), .d (intsD t.B), .d (tapeD t.bs t.ls), .d (intsD t.ws), .own Ar (R.map intsD), .un, .un, .un, .un, .un]) rfl ⟨t.B, [t.B], rfl, ok.lB, hN, rfl, rfl, (fun G hG => by rw [List.mem_singleton] at hG; rw [hG]; exact ok.lB), rfl⟩ (fun i p ν1 r0 hp hν hI => ?_) (fun ν2 ρ' hν hv hI => ?_)
  · obtain ⟨F, R, hg, hF, hFN, hR, hRi, hRR, rfl⟩ := hI
    obtain ⟨⟨d, sn⟩, k⟩ := p
    obtain ⟨eb, ek⟩ := zipIdx_at hp
    dsimp only at eb ek
    subst ek
    have hd : d < t.ds.length := ok.beads _ (List.mem_of_getElem? eb)
    have hi := lt_of_at eb
    have hd0 : (0 : Int) ≤ ((d : Int), (0 : Int)).1 := by show (0 : Int) ≤ (d : Int); omega
    obtain ⟨wy, ew⟩ : ∃ wy, t.ws[k]? = some wy := ⟨_, List.getElem?_eq_getElem (by omega)⟩
    have ewD : atD (t.ws.map .int) (k : Int) = some (.int wy) := atD_map (f := PyData.int) ew
    obtain ⟨o1, o2⟩ := rooms_of ok.doors (x := ((d : Int), wy)) (by show (0 : Int) ≤ (d : Int); omega) (by show (d : Int) < (t.ds.length : Int); omega)
    have one := rooms_ne ok.doors (x := ((d : Int), wy)) (by show (0 : Int) ≤ (d : Int); omega) (by show (d : Int) < (t.ds.length : Int); omega)
    rw [treadR_step eb ew] at hg
    have bad : stepOk t.ds F (d, sn) wy = false → storyB t = false := fun h => by
      rw [h, if_neg (by decide)] at hg
      unfold storyB
      rw [hg, Bool.and_false]
    walk_at "nrm"
    walk_at "de"
    walk_at "nrm"
    refine ds_seq (ds_if (dt_or ?_))
    walk_at "de"
    refine ⟨_, ewD, ?_⟩
    walk_at "de"
    refine ⟨szd rfl, [0, 1], .inl rfl, fun e1 => ⟨fun _ => ds_ret (de_c rfl (fin (bad ?_))), fun z => by cases z⟩, fun e1 => ?_⟩
    · have e1 : ¬ (wy = 0 ∨ wy = 1) := by simpa using e1
      unfold stepOk
      rw [decide_eq_false e1, Bool.false_and, Bool.false_and]
    have e1 : wy = 0 ∨ wy = 1 := by
      have : ¬ ¬ (wy = 0 ∨ wy = 1) := by simpa using e1
      omega
    walk_at "de"
    refine ⟨_, ewD, ?_⟩
    walk_at "de"
    refine ⟨szd rfl, [-1, wy], .inl rfl, fun e2 => ds_ret (de_c rfl (fin (bad ?_))), fun e2 => ds_next ?_⟩
    · have e2 : ¬ (sn = -1 ∨ sn = wy) := by simpa using e2
      unfold stepOk
      rw [decide_eq_false (show ¬ ((d, sn).2 = -1 ∨ (d, sn).2 = wy) from e2), Bool.and_false, Bool.false_and]
    have e2 : sn = -1 ∨ sn = wy := by
      have : ¬ ¬ (sn = -1 ∨ sn = wy) := by simpa using e2
      omega
    refine ds_seq (ds_setO rfl (by simp) (do_list ?_))
    walk_at "de"
    refine ⟨_, atD_map (f := intsD) hRi, ?_⟩
    refine ⟨_, .inl rfl, fun Ah => ?_⟩
    walk_at "nrm"
    refine ds_seq (ds_set rfl ?_)
    walk_at "de"
    refine ⟨_, door_at (x := ((d : Int), wy)) (by show (0 : Int) ≤ (d : Int); omega) (by show (d : Int) < (t.ds.length : Int); omega), ?_⟩
    walk_at "nrm"
    -- out
    refine ds_seq (ds_subI rfl (dI_e ?_))
    walk_at "de"
    refine ⟨_, ewD, ?_⟩
    refine ⟨_, pair_out e1, ?_⟩
    walk_at "de"
    refine ⟨_, atD_ints (by rw [hF]; exact o1), ?_⟩
    walk_at "de"
    refine ⟨_, ewD, ?_⟩
    refine ⟨_, pair_out e1, _, by rw [List.length_map, hF]; exact ixN_nat o1, ?_⟩
    rw [show (F.map PyData.int).set (outOf t.ds ((d : Int), wy)) (.int (F.getD (outOf t.ds ((d : Int), wy)) 0 - 1)) = (F.set (outOf t.ds ((d : Int), wy)) (F.getD (outOf t.ds ((d : Int), wy)) 0 - 1)).map .int from (List.map_set ..).symm]
    walk_at "nrm"
    -- into
    refine ds_seq (ds_subI rfl (dI_e ?_))
    walk_at "de"
    refine ⟨_, ewD, ?_⟩
    refine ⟨_, pair_into e1, ?_⟩
    walk_at "de"
    refine ⟨_, atD_ints (by rw [List.length_set, hF]; exact o2), ?_⟩
    walk_at "de"
    refine ⟨_, ewD, ?_⟩
    refine ⟨_, pair_into e1, _, by rw [List.length_map, List.length_set, hF]; exact ixN_nat o2, ?_⟩
    rw [← List.map_set]
    show Ds K _ [_, _, _, _, _, _, _, .own Ah ((stepTo t.ds F ((d : Int), wy)).map .int), _, _] _ _ _
    refine ds_seq (ds_if (dt_tTest (dB_op0 (dI_minO rfl ?_ fun m m1 m2 => ?_))))
    · rw [step_len, hF]; omega
    walk_at "de"
    refine ⟨fun e3 => ds_ret (de_c rfl (fin (bad ?_))), fun e3 => ds_next ?_⟩
    · have e3 := of_decide_eq_true e3
      unfold stepOk
      rw [decide_eq_false (show ¬ (1 ≤ F.getD (outOf t.ds (((d, sn) : Bead).1, wy)) 0) from fun hp => ?_), Bool.and_false]
      have := step_nn hFN hp m m1
      omega
    have e3 := of_decide_eq_false e3
    have pos : 1 ≤ F.getD (outOf t.ds ((d : Int), wy)) 0 := by
      have := m2 _ (step_out one (by rw [hF]; exact o1))
      omega
    have good : stepOk t.ds F (d, sn) wy = true := by
      unfold stepOk
      rw [decide_eq_true e1, decide_eq_true (show (d, sn).2 = -1 ∨ (d, sn).2 = wy from e2), decide_eq_true (show 1 ≤ F.getD (outOf t.ds (((d, sn) : Bead).1, wy)) 0 from pos)]
      rfl
    rw [good, if_pos rfl] at hg
    refine ds_freeze 7 rfl ?_
    walk_at "nrm"
    refine ds_append rfl (de_var rfl ⟨szL (n := (R.map intsD).length) (by rw [List.length_map, hR]; have := ok.lb; omega), ?_⟩)
    walk_at "nrm"
    refine ⟨by omega, rfl, stepTo t.ds F ((d : Int), wy), R ++ [stepTo t.ds F ((d : Int), wy)], hg, by rw [step_len, hF], step_nn hFN pos, by rw [List.length_append, hR]; rfl, ?_, fun G hG => ?_, ?_⟩
    · rw [List.getElem?_append_right (by omega), hR, Nat.sub_self]; rfl
    · rcases List.mem_append.mp hG with h | h
      · exact hRR G h
      · rw [List.mem_singleton] at h; rw [h, step_len, hF]
    · rw [List.map_append]; rfl
  · obtain ⟨F, R, hg, hF, hFN, hR, hRi, hRR, eR⟩ := hI
    rw [List.length_zipIdx] at hg hR
    rw [List.drop_of_length_le (Nat.le_refl _), List.drop_of_length_le (by rw [hlen]; exact Nat.le_refl _)] at hg
    have hg : treadR t.ds t.bs t.ws t.B [t.B] = some R := hg
    refine ds_wipe [5, 6, 7, 8] hv ?_
    rw [eR]
    refine ds_ret (dB_e (dB_eqD (Do.de (do_lck rfl ?_))))
    walk_at "de"
    refine lcF lookD t.ls (fun l => !lookRight R l) lookD (small_of ok.ll (by decide)) rfl (fun l hl => ?_) ?_
    · obtain ⟨l0, l1, l2, l3⟩ := ok.looks l hl
      have eat := rows_at (R := R) l0 (by omega)
      have hG := rows_len hRR (i := l.1.toNat) (by omega)
      have ert := atD_int (F := R.getD l.1.toNat []) l2 (by rw [hG]; exact l3)
      walk_at "nrm"
      refine dg_name rfl (by simp) ?_
      walk_at "nrm"
      refine dt_not ?_
      walk_at "de"
      refine ⟨_, eat, ?_⟩
      walk_at "de"
      refine ⟨_, ert, ?_⟩
      refine ⟨fun e => ?_, fun e => ⟨rfl, ?_, fun _ => ?_⟩⟩
      · walk_at "de"
        refine ⟨rfl, ?_, fun _ => ?_⟩
        · unfold lookRight seenAt
          rw [e, Bool.true_and]
        · walk_at "de"
          exact ⟨rfl, rfl⟩
      · unfold lookRight seenAt
        rw [e, Bool.false_and]
      · walk_at "de"
        exact ⟨rfl, rfl⟩
    · refine Do.de (do_lst (da_nil ⟨szd rfl, ?_, rfl, ?_⟩))
      · have : Shp 2 (.list ((t.ls.filter fun l => !lookRight R l).map lookD)) := shp_mapL _ fun a => shp_tup fun x hx => by
          simp only [List.mem_cons, List.not_mem_nil, or_false] at hx
          rcases hx with rfl | rfl | rfl | rfl <;> exact shp_int _
        exact this.ok (by decide)
      · rw [eqv_nilL]
        refine fin ?_
        unfold storyB
        rw [hg, decide_eq_true hlen, Bool.true_and]
        have : decide (((t.ls.filter fun l => !lookRight R l).map lookD) = []) = t.ls.all (lookRight R) := by
          rw [Bool.eq_iff_iff, decide_eq_true_eq, List.map_eq_nil_iff, List.filter_eq_nil_iff, List.all_eq_true]
          simp
        rw [this]
end
end Bd
namespace Bd
open PySem PySem.Spec PyProof.Rows L2 HT
local macro_rules | `(tactic| walk_at "de1") => `(tactic| (with_reducible first
  | refine dI_var rfl ?_ | refine dI_c ?_ | refine dI_op0 ?_ | refine dI_op ?_ | refine dI_un ?_ | refine dI_ixO rfl ?_ | refine dI_ixT ?_ | refine dI_ixL ?_ | refine dI_if ?_ | refine dI_lenO rfl ?_ | refine dI_lenL ?_ | refine dI_abs ?_ | refine dI_two ?_ | refine dI_intB ?_
  | refine dB_var rfl ?_ | refine dB_c ?_ | refine dB_op0 ?_ | refine dB_eqI ?_ | refine dB_neI ?_ | refine dB_inI ?_ | refine dB_not ?_ | refine dB_and ?_ | refine dB_or ?_ | refine dB_chain ?_ | refine dB_eqD ?_ | refine dB_neD ?_ | refine dB_isi ?_
  | refine dL_var rfl ?_ | refine dL_ixO rfl ?_ | refine dL_ixT ?_ | refine dL_ixL ?_ | refine dL_o ?_
  | refine dT_var rfl ?_ | refine dT_ixL ?_ | refine dT_ixT ?_ | refine dT_tup ?_ | refine dT_slT ?_ | refine dT_catT ?_
  | refine de_var rfl ?_ | refine dX_ixO rfl ?_ | refine dX_ixT ?_ | refine dX_ixL ?_ | refine de_tup ?_ | refine de_c rfl ?_ | refine de_if ?_ | refine Do.de (do_lst ?_) | refine de_catTT ?_ | refine de_slTT ?_
  | refine dI_e (dI_op0 ?_) | refine dI_e (dI_op ?_) | refine dI_e (dI_un ?_) | refine dI_e (dI_lenO rfl ?_) | refine dI_e (dI_lenL ?_) | refine dI_e (dI_abs ?_) | refine dI_e (dI_two ?_) | refine dI_e (dI_intB ?_)
  | refine dB_e (dB_op0 ?_) | refine dB_e (dB_eqI ?_) | refine dB_e (dB_neI ?_) | refine dB_e (dB_inI ?_) | refine dB_e (dB_not ?_) | refine dB_e (dB_and ?_) | refine dB_e (dB_or ?_) | refine dB_e (dB_chain ?_) | refine dB_e (dB_eqD ?_) | refine dB_e (dB_neD ?_)
  | refine dt_tB ?_ | refine dt_tTest ?_ | refine dt_not ?_ | refine dt_and ?_ | refine dt_or ?_ | refine dt_yes ?_
  | refine da_nil ?_ | refine da_cons ?_ | refine dp_no ?_ | refine dp_partI ?_
  | refine di_rngI ?_ | refine di_listL ?_ | refine di_zipL ?_ | refine di_enumL ?_
  | refine do_lck rfl ?_ | refine do_lst ?_ | refine do_catL ?_ | refine do_slLL ?_ | refine do_revL ?_
  | refine dg_nm rfl ?_ | refine dg_name rfl (by simp) ?_ | refine dg_tup rfl ?_ | refine dgs_cons ?_ | refine dgs_nil ?_))
local macro_rules | `(tactic| walk_at "de") => `(tactic| (repeat (first | walk_at "de1" | (refine ⟨_, rfl, ?_⟩))))
local macro_rules | `(tactic| walk_at "nrm") => `(tactic| (try dsimp only [List.set, toD, wipeR, List.map, pairD, beadD, lookD]))

abbrev sWrongAtFirst : Stmt := topS 6
theorem scWrongAtFirst : FnScope ["begin", "tape", "moment", "room", "least", "most"] ["begin", "tape"] (defScope sWrongAtFirst) := ⟨rfl, rfl, rfl, by decide +kernel, rfl, by decide +kernel, by decide +kernel⟩
abbrev sLookRight : Stmt := topS 14
theorem scLookRight : FnScope ["house", "begin", "tape", "moment", "room"] ["house", "begin", "tape", "moment", "room"] (defScope sLookRight) := ⟨rfl, rfl, rfl, by decide +kernel, rfl, by decide +kernel, by decide +kernel⟩
abbrev sAreStretches : Stmt := topS 15
theorem scAreStretches : FnScope ["house", "tape", "rows", "room", "first", "last", "_", "next_room", "next_first"] ["house", "tape", "rows"] (defScope sAreStretches) := ⟨rfl, rfl, rfl, by decide +kernel, rfl, by decide +kernel, by decide +kernel⟩
abbrev sWithin : Stmt := topS 16
theorem scWithin : FnScope ["house", "tape", "stretches", "rooms_left", "door", "way", "at", "rooms", "room", "one", "first", "last"] ["house", "tape", "stretches"] (defScope sWithin) := ⟨rfl, rfl, rfl, by decide +kernel, rfl, by decide +kernel, by decide +kernel⟩
/-- a stretch -/
abbrev Sr := Nat × Nat × Nat
def srD (s : Sr) : PyData := .tuple [.int s.1, .int s.2.1, .int s.2.2]
structure Sts (rooms n : Nat) (rows : List Sr) : Prop where
  ok : ∀ s ∈ rows, s.1 < rooms ∧ 1 ≤ s.2.1 ∧ s.2.1 ≤ s.2.2 ∧ s.2.2 ≤ n
  rise : rows.Pairwise (fun a b => a.1 < b.1)
  len : rows.length ≤ 1000
structure Tq where
  rooms : Nat
  ds : List (Nat × Nat)
  B : List Int
  bs : List Bead
  ls : List Lk
structure Tq.Ok (t : Tq) : Prop where
  doors : Doors t.rooms t.ds
  lB : t.B.length = t.rooms
  beads : Beads t.ds.length t.bs
  looks : ∀ l ∈ t.ls, 0 ≤ l.1 ∧ l.1 ≤ t.bs.length ∧ 0 ≤ l.2.1 ∧ l.2.1 < t.rooms
  lb : t.bs.length ≤ 10000
  ll : t.ls.length ≤ 10000
theorem Tq.Ok.tp {t : Tq} (h : t.Ok) {r m : Nat} (hr : r < t.rooms) : (Tp.mk t.rooms t.ds t.B t.bs t.ls r m).Ok := ⟨h.doors, h.lB, fun b hb => (h.beads b hb).1, hr, h.lb, h.ll⟩
/-- looks at first that are wrong, the rooms of these -/
def wrongAt (B : List Int) (l : Lk) : Bool := decide (l.1 = 0) && !(decide (l.2.2.1 ≤ B.getD l.2.1.toNat 0) && decide (B.getD l.2.1.toNat 0 ≤ l.2.2.2))
def wrongs (B : List Int) (ls : List Lk) : List Int := (ls.filter (wrongAt B)).map (·.2.1)
structure Wr where
  B : List Int
  bs : List Bead
  ls : List Lk
def spWrong (K : PySem.W.Frag) : Sp := spD (ι := Wr) K Wn [] (fun t => [intsD t.B, tapeD t.bs t.ls]) (fun t _ => (∀ l ∈ t.ls, 0 ≤ l.2.1 ∧ l.2.1 < t.B.length) ∧ t.ls.length ≤ 10000) (fun t _ _ s => ∃ a, s = .own a ((wrongs t.B t.ls).map .int))
structure Lr where
  t : Tq
  r : Nat
  m : Nat
def lookedB (i : Lr) : Bool := if i.m = 0 then decide ((i.r : Int) ∈ wrongs i.t.B i.t.ls) else decide (leastOut i.t.ds i.t.B i.t.bs i.t.ls i.r i.m > mostOut i.t.ds i.t.B i.t.bs i.t.ls i.r i.m)
def Lr.arg (i : Lr) : List PyData := [houseD i.t.rooms i.t.ds, intsD i.t.B, tapeD i.t.bs i.t.ls, .int i.m, .int i.r]
def spLookR (K : PySem.W.Frag) : Sp := spD (ι := Lr) K Wn [] Lr.arg (fun i _ => i.t.Ok ∧ i.m ≤ i.t.bs.length ∧ i.r < i.t.rooms) (fun i _ _ s => s = .d (.bool (lookedB i)))
structure Rw where
  t : Tq
  rows : List Sr
def Rw.arg (i : Rw) : List PyData := [houseD i.t.rooms i.t.ds, tapeD i.t.bs i.t.ls, .list (i.rows.map srD)]
def spStr (K : PySem.W.Frag) : Sp := spD (ι := Rw) K Wn [] Rw.arg (fun i _ => i.t.Ok ∧ Sts i.t.rooms i.t.bs.length i.rows) (fun _ _ _ s => s = .d (.bool true))
/-- the rooms that a bead may have left -/
def leftRooms (ds : List (Nat × Nat)) (b : Bead) : List Nat := let p := ds.getD b.1 (0, 0); if b.2 = -1 then [p.1, p.2] else [if b.2 = 0 then p.1 else p.2]
/-- whether the room has a stretch with the bead in it -/
def inStr (k r : Nat) (s : Sr) : Bool := decide ((r : Int) = s.1) && (decide ((s.2.1 : Int) ≤ (k : Int) + 1) && decide ((k : Int) + 1 ≤ s.2.2))
def hitB (rows : List Sr) (k r : Nat) : Bool := rows.any (inStr k r)
def withinL (ds : List (Nat × Nat)) (bs : List Bead) (rows : List Sr) : List (List Bool) := bs.zipIdx.map fun p => (leftRooms ds p.1).map (hitB rows p.2)
def spWithin (K : PySem.W.Frag) : Sp := spD (ι := Rw) K Wn [] Rw.arg (fun i _ => i.t.Ok ∧ i.rows.length ≤ 1000) (fun i _ _ s => s = .d (.list ((withinL i.t.ds i.t.bs i.rows).map fun x => .list (x.map .bool))))
theorem cutD_from1 (xs : List PyData) : cutD xs (some 1) none = xs.drop 1 := by
  cases xs with
  | nil => rfl
  | cons x xs =>
    unfold cutD HT.sIx
    show List.take ((x :: xs).length - min (1 : Int).toNat (x :: xs).length) (List.drop (min (1 : Int).toNat (x :: xs).length) (x :: xs)) = _
    rw [show min (1 : Int).toNat (x :: xs).length = 1 by show min 1 (xs.length + 1) = 1; omega]
    exact List.take_of_length_le (by rw [List.length_drop]; exact Nat.le_refl _)
section
variable {P : Program} {w : World} {K : PySem.W.Frag} {mg : Str → Option Value} {base : Heap}
theorem ok_wrong {f : Addr} {fd : FuncData} (F : Fun K "wrong_at_first" "wrong_at_first" sWrongAtFirst f fd) : FnG P w K mg base 1 f fd ["begin", "tape"] (spWrong K) := by
  have sc := scWrongAtFirst
  refine fnG_of F scWrongAtFirst (fun vs H Q E h => spD_len h fun i => rfl) (fun cdv A outer s H vs Q E hr hg h => ?_)
  refine ⟨_, (pss_one (ps_ret (pe_lc (own := [("moment", 2), ("room", 3), ("least", 4), ("most", 5)]) (g := gTup K 4 (gCons (gName 2) (gCons (gName 3) (gCons (gName 4) (gCons (gName 5) gNil)))))  (by rfl) sc.nd  (pi_list (pe_ix ix_tup (pv 1) pe_int (fun _ _ => rfl))) (blkOk_by (own := [("moment", 2), ("room", 3), ("least", 4), ("most", 5)]) (N := ["begin", "tape", "moment", "room", "least", "most"]) (sc := defScope sWrongAtFirst) (by decide +kernel)) (fun _ _ _ _ _ => (pg_tup (by rfl) (pgs_cons (pg_name (i := 2) sc.nd rfl (.inl rfl)) (pgs_cons (pg_name (i := 3) sc.nd rfl (.inl rfl)) (pgs_cons (pg_name (i := 4) sc.nd rfl (.inl rfl)) (pgs_cons (pg_name (i := 5) sc.nd rfl (.inl rfl)) pgs_nil)))))) (fun _ _ _ _ _ => (pts_one (PW.pt (pw_and (pt_cmpR op_eq (pv 2) pe_int (nomark _)) (pw_and1 (pt_not (pt_chain op_le op_le (pv 4) (pe_ix (ixK (rIxL K) ix_list) (pv 0) (pv 3) (fun _ _ => rfl)) (pv 5)))))))) (fun _ _ _ _ _ => (pv 3))))), ?_⟩
  try dsimp only [cxOf, L2.Cx.nox]
  refine fn_ds (fun t => [.d (intsD t.B), .d (tapeD t.bs t.ls), .un, .un, .un, .un]) h (fun i => rfl) fun t ν ok => ?_
  obtain ⟨hl, hn⟩ := ok
  refine ds_retO ?_
  walk_at "de"
  refine lcF lookD t.ls (wrongAt t.B) (fun l => .int l.2.1) (small_of hn (by decide)) rfl (fun l hm => ?_) fun a => ?_
  · obtain ⟨l0, l1⟩ := hl l hm
    have ert := atD_int (F := t.B) l0 l1
    walk_at "nrm"
    walk_at "de"
    refine ⟨fun e => dt_not ?_, fun e => ⟨rfl, by unfold wrongAt; rw [e, Bool.false_and], fun z => by unfold wrongAt at z; rw [e, Bool.false_and] at z; cases z⟩⟩
    walk_at "de"
    refine ⟨_, ert, ?_⟩
    refine ⟨fun e2 => ?_, fun e2 => ⟨rfl, by unfold wrongAt; rw [e, e2, Bool.true_and, Bool.false_and], fun _ => ?_⟩⟩
    · walk_at "de"
      refine ⟨rfl, by unfold wrongAt; rw [e, e2, Bool.true_and, Bool.true_and], fun _ => ?_⟩
      walk_at "de"
      exact ⟨rfl, rfl⟩
    · walk_at "de"
      exact ⟨rfl, rfl⟩
  · refine ⟨a, ?_⟩
    unfold wrongs
    rw [List.map_map]; rfl
theorem ok_lookR {f : Addr} {fd : FuncData} (F : Fun K "_look_right" "_look_right" sLookRight f fd) (cal_wrong_at_first : Cg P w K mg base 1 "wrong_at_first" (spWrong K)) (cal_least_out : Cg P w K mg base 2 "least_out" (spLeast K)) (cal_most_out : Cg P w K mg base 2 "most_out" (spMost K)) (m_len : mg "len" = none) : FnG P w K mg base 3 f fd ["house", "begin", "tape", "moment", "room"] (spLookR K) := by
  have sc := scLookRight
  refine fnG_of F scLookRight (fun vs H Q E h => spD_len h fun i => rfl) (fun cdv A outer s H vs Q E hr hg h => ?_)
  refine ⟨_, (pss_cons (ps_if (PW.pt (pw_or (pt_not (pt_chain op_le op_le pe_int (pv 3) (pe_callB call_len_seq (by rfl) m_len PySem.boot_len (pa_cons (pe_ix ix_tup (pv 2) pe_int (fun _ _ => rfl)) pa_nil)))) (pw_or1 (pt_not (pt_chain op_le op_lt pe_int (pv 4) (pe_ix ix_tup (pv 0) pe_int (fun _ _ => rfl)))))))
    (pss_one (ps_ret pe_bl))
    pss_nil)
  (pss_cons (ps_if (pt_cmpR op_eq (pv 3) pe_int (nomark _))
    (pss_one (ps_ret (pe_cmpR op_in_seq (pv 4) (pe_g cal_wrong_at_first hg hr (by first | decide | exact Nat.le_refl _ | omega) (by rfl) (pa_cons (pv 1) (pa_cons (pv 2) pa_nil))) rfl)))
    pss_nil)
  (pss_one (ps_ret (pe_cmpR op_gt (pe_g cal_least_out hg hr (by first | decide | exact Nat.le_refl _ | omega) (by rfl) (pa_cons (pv 0) (pa_cons (pv 1) (pa_cons (pv 2) (pa_cons (pv 4) (pa_cons (pv 3) pa_nil)))))) (pe_g cal_most_out hg hr (by first | decide | exact Nat.le_refl _ | omega) (by rfl) (pa_cons (pv 0) (pa_cons (pv 1) (pa_cons (pv 2) (pa_cons (pv 4) (pa_cons (pv 3) pa_nil)))))) (nomark _)))))), ?_⟩
  dsimp only [cxOf, L2.Cx.nox]
  refine fn_ds (fun i => [.d (houseD i.t.rooms i.t.ds), .d (intsD i.t.B), .d (tapeD i.t.bs i.t.ls), .d (.int i.m), .d (.int i.r)]) h (fun i => rfl) fun i ν hp => ?_
  obtain ⟨ok, hm, hr⟩ := hp
  refine ds_seq (ds_if (dt_or (dt_not ?_)))
  walk_at "de"
  refine ⟨fun e => ?_, fun e => by simp at e <;> omega⟩
  walk_at "de"
  rw [List.length_map]
  refine ⟨fun e2 => by simp at e2 <;> omega, fun e2 => dt_not ?_⟩
  walk_at "de"
  refine ⟨fun e3 => ?_, fun e3 => by simp at e3 <;> omega⟩
  walk_at "de"
  refine ⟨fun e4 => by simp at e4 <;> omega, fun e4 => ds_next ?_⟩
  refine ds_seq (ds_if ?_)
  walk_at "de"
  refine ⟨fun e => ds_ret (dB_e (dB_inI (dI_var rfl (Do.de (do_call0 ?_))))), fun e => ds_next (ds_ret (dB_e (dB_op0 (dI_call0 ?_))))⟩
  · walk_at "de"
    refine ⟨⟨i.t.B, i.t.bs, i.t.ls⟩, rfl, ⟨fun l hl => ⟨(ok.looks l hl).2.2.1, by show l.2.1 < (i.t.B.length : Int); rw [ok.lB]; exact (ok.looks l hl).2.2.2⟩, ok.ll⟩, fun n s hs => ?_⟩
    obtain ⟨a, rfl⟩ := hs
    refine ⟨a, _, rfl, wrongs i.t.B i.t.ls, .inl rfl, ?_⟩
    have e' : i.m = 0 := by have := of_decide_eq_true e; omega
    show Sl.d _ = Sl.d _
    unfold lookedB
    rw [if_pos e']
    rfl
  · walk_at "de"
    refine ⟨⟨i.t.rooms, i.t.ds, i.t.B, i.t.bs, i.t.ls, i.r, i.m⟩, rfl, ok.tp hr, fun n s hs => ⟨_, hs, dI_call0 ?_⟩⟩
    walk_at "de"
    refine ⟨⟨i.t.rooms, i.t.ds, i.t.B, i.t.bs, i.t.ls, i.r, i.m⟩, rfl, ok.tp hr, fun n s hs => ⟨_, hs, ?_⟩⟩
    have e' : i.m ≠ 0 := by have := of_decide_eq_false e; omega
    show Sl.d _ = Sl.d _
    unfold lookedB
    rw [if_neg e']
theorem ok_str {f : Addr} {fd : FuncData} (F : Fun K "_are_stretches" "_are_stretches" sAreStretches f fd) (m_len : mg "len" = none) (m_zip : mg "zip" = none) : FnG P w K mg base 1 f fd ["house", "tape", "rows"] (spStr K) := by
  have sc := scAreStretches
  refine fnG_of F scAreStretches (fun vs H Q E h => spD_len h fun i => rfl) (fun cdv A outer s H vs Q E hr hg h => ?_)
  refine ⟨_, (pss_cons (ps_for PassesOwn.never rfl (pi_list (pv 2)) (pg_tup (by rfl) (pgs_cons (pg_name (i := 3) sc.nd rfl (.inl rfl)) (pgs_cons (pg_name (i := 4) sc.nd rfl (.inl rfl)) (pgs_cons (pg_name (i := 5) sc.nd rfl (.inl rfl)) pgs_nil))))
    (pss_one (ps_if (PW.pt (pw_or (pt_not (pt_chain op_le op_lt pe_int (pv 3) (pe_ix ix_tup (pv 0) pe_int (fun _ _ => rfl)))) (pw_or1 (pt_not (pt_chain3 op_le op_le op_le pe_int (pv 4) (pv 5) (pe_callB call_len_seq (by rfl) m_len PySem.boot_len (pa_cons (pe_ix ix_tup (pv 1) pe_int (fun _ _ => rfl)) pa_nil)))))))
    (pss_one (ps_ret pe_bl))
    pss_nil)))
  (pss_cons (ps_for PassesOwn.never rfl (pi_zip (by rfl) m_zip (pa_cons (pv 2) (pa_cons (pe_slice sl_list (pv 2) (po_some pe_int) po_none) pa_nil))) (pg_tup (by rfl) (pgs_cons (pg_tup (by rfl) (pgs_cons (pg_name (i := 3) sc.nd rfl (.inl rfl)) (pgs_cons (pg_name (i := 6) sc.nd rfl (.inl rfl)) (pgs_cons (pg_name (i := 5) sc.nd rfl (.inl rfl)) pgs_nil)))) (pgs_cons (pg_tup (by rfl) (pgs_cons (pg_name (i := 7) sc.nd rfl (.inl rfl)) (pgs_cons (pg_name (i := 8) sc.nd rfl (.inl rfl)) (pgs_cons (pg_name (i := 6) sc.nd rfl (.inl rfl)) pgs_nil)))) pgs_nil)))
    (pss_one (ps_if (PW.pt (pw_or (pt_cmpR op_lt (pv 7) (pv 3) (nomark _)) (pw_or1 (PW.pt (pw_and (pt_cmpR op_eq (pv 7) (pv 3) (nomark _)) (pw_and1 (pt_cmpR op_lt (pv 8) (pe_op op_add (pv 5) pe_int) (nomark _))))))))
    (pss_one (ps_ret pe_bl))
    pss_nil)))
  (pss_one (ps_ret pe_bl)))), ?_⟩
  try dsimp only [cxOf, L2.Cx.nox]
  refine fn_ds (fun i => [.d (houseD i.t.rooms i.t.ds), .d (tapeD i.t.bs i.t.ls), .d (.list (i.rows.map srD)), .un, .un, .un, .un, .un, .un]) h (fun i => rfl) fun i ν hp => ?_
  obtain ⟨ok, hs⟩ := hp
  refine ds_seq (ds_fork ?_)
  walk_at "de"
  refine forW [3, 4, 5] srD i.rows rfl 0 (fun _ r => r = [.d (houseD i.t.rooms i.t.ds), .d (tapeD i.t.bs i.t.ls), .d (.list (i.rows.map srD)), .un, .un, .un, .un, .un, .un]) rfl rfl (fun k sr ν1 r0 hk hν hI => ?_) (fun ν2 ρ' hν hv hI => ?_)
  · subst hI
    obtain ⟨s1, s2, s3, s4⟩ := hs.ok sr (List.mem_of_getElem? hk)
    dsimp only [srD]
    walk_at "de"
    walk_at "nrm"
    refine ds_if (dt_or (dt_not ?_))
    walk_at "de"
    refine ⟨fun e => ?_, fun e => by simp at e <;> omega⟩
    walk_at "de"
    refine ⟨fun e2 => by simp at e2 <;> omega, fun e2 => dt_not (dt_tTest (dB_chain3 ?_))⟩
    walk_at "de"
    refine ⟨fun e3 => ?_, fun e3 => by simp at e3 <;> omega⟩
    walk_at "de"
    refine ⟨fun e4 => ?_, fun e4 => by simp at e4 <;> omega⟩
    walk_at "de"
    rw [List.length_map]
    refine ⟨fun e5 => by simp at e5 <;> omega, fun e5 => ds_next ⟨by omega, rfl, rfl⟩⟩
  · refine ds_wipe [3, 4, 5] hv ?_
    rw [hI]
    refine ds_seq (ds_fork ?_)
    walk_at "de"
    rw [cutD_from1, ← List.map_drop, zipD_map]
    refine forW [3, 4, 5, 6, 7, 8] (fun p : Sr × Sr => .tuple [srD p.1, srD p.2]) (i.rows.zip (i.rows.drop 1)) rfl 0 (fun _ r => r = [.d (houseD i.t.rooms i.t.ds), .d (tapeD i.t.bs i.t.ls), .d (.list (i.rows.map srD)), .un, .un, .un, .un, .un, .un]) rfl rfl (fun k p ν1 r0 hk hν hI => ?_) (fun ν3 ρ' hν hv hI => ?_)
    · subst hI
      obtain ⟨ea, eb⟩ := zip_get hk
      obtain ⟨a, b⟩ := p
      dsimp only at ea eb
      rw [List.getElem?_drop] at eb
      have hab : a.1 < b.1 := by
        have hlt := lt_of_at eb
        have h1 := List.pairwise_iff_getElem.mp hs.rise k (1 + k) (by omega) hlt (by omega)
        rw [List.getElem?_eq_getElem (by omega)] at ea
        rw [List.getElem?_eq_getElem hlt] at eb
        rw [Option.some.inj ea, Option.some.inj eb] at h1
        exact h1
      dsimp only [srD]
      walk_at "de"
      walk_at "nrm"
      refine ds_if (dt_or ?_)
      walk_at "de"
      refine ⟨fun e => by simp at e <;> omega, fun e => dt_and ?_⟩
      walk_at "de"
      refine ⟨fun e2 => by simp at e2 <;> omega, fun e2 => ⟨(fun z => by cases z), fun _ => ds_next ⟨by omega, rfl, rfl⟩⟩⟩
    · refine ds_ret ?_
      walk_at "de"
      rfl
theorem ok_within {f : Addr} {fd : FuncData} (F : Fun K "_within" "_within" sWithin f fd) (m_enumerate : mg "enumerate" = none) (m_any : mg "any" = none) : FnG P w K mg base 1 f fd ["house", "tape", "stretches"] (spWithin K) := by
  have sc := scWithin
  refine fnG_of F scWithin (fun vs H Q E h => spD_len h fun i => rfl) (fun cdv A outer s H vs Q E hr hg h => ?_)
  refine ⟨_, (pss_cons (ps_setLc (i := 3) (own := [("door", 4), ("way", 5)]) (g := gTup K 2 (gCons (gName 4) (gCons (gName 5) gNil))) (tt := tYes) (by rfl) sc.nd rfl rfl (sw_true rfl rfl rfl (by decide +kernel)) (pi_list (pe_ix ix_tup (pv 1) pe_int (fun _ _ => rfl))) (blkOk_by (own := [("door", 4), ("way", 5)]) (N := ["house", "tape", "stretches", "rooms_left", "door", "way", "at", "rooms", "room", "one", "first", "last"]) (sc := defScope sWithin) (by decide +kernel)) (fun _ _ _ _ _ => (pg_tup (by rfl) (pgs_cons (pg_name (i := 4) sc.nd rfl (.inl rfl)) (pgs_cons (pg_name (i := 5) sc.nd rfl (.inl rfl)) pgs_nil)))) (fun _ _ _ _ _ => pts_nil) (fun _ _ _ _ _ => (pe_ifExp (pt_cmpR op_eq (pv 5) (pe_un un_neg pe_int) (nomark _)) (pe_ix (ixK (rIxL K) ix_list) (pe_ix (ixK (rIxT K) ix_tup) (pv 0) pe_int (fun _ _ => rfl)) (pv 4) (fun _ _ => rfl)) (pe_slice (slK (rSlT K) sl_tup) (pe_ix (ixK (rIxL K) ix_list) (pe_ix (ixK (rIxT K) ix_tup) (pv 0) pe_int (fun _ _ => rfl)) (pv 4) (fun _ _ => rfl)) (po_some (pv 5)) (po_some (pe_op op_add (pv 5) pe_int))))))
  (pss_one (ps_ret (pe_lc (own := [("at", 6), ("rooms", 7)]) (g := gTup K 2 (gCons (gName 6) (gCons (gName 7) gNil))) (tt := tYes) (by rfl) sc.nd  (pi_enum (by rfl) m_enumerate (pa_cons (pv 3) pa_nil)) (blkOk_by (own := [("at", 6), ("rooms", 7)]) (N := ["house", "tape", "stretches", "rooms_left", "door", "way", "at", "rooms", "room", "one", "first", "last"]) (sc := defScope sWithin) (by decide +kernel)) (fun _ _ _ _ _ => (pg_tup (by rfl) (pgs_cons (pg_name (i := 6) sc.nd rfl (.inr rfl)) (pgs_cons (pg_name (i := 7) sc.nd rfl (.inl rfl)) pgs_nil)))) (fun _ _ _ _ _ => pts_nil) (fun _ _ _ _ _ => (pe_lc (own := [("room", 8)]) (g := gName 8) (tt := tYes) (by rfl) sc.nd  (piK (iTup K _) (pi_tup (pv 7))) (blkOk_by (own := [("room", 8)]) (N := ["house", "tape", "stretches", "rooms_left", "door", "way", "at", "rooms", "room", "one", "first", "last"]) (sc := { kind := PySem.ScopeKind.function, names := [ (PySem.Str.ofString ".0", PySem.NameKind.local), (PySem.Str.ofString "at", PySem.NameKind.cell), (PySem.Str.ofString "rooms", PySem.NameKind.local), (PySem.Str.ofString "stretches", PySem.NameKind.cell)], isGenerator := false, isCoroutine := false, more := [] : PySem.Scope }) (by decide +kernel)) (fun _ _ _ _ _ => (pg_name (i := 8) sc.nd rfl (.inr rfl))) (fun _ _ _ _ _ => pts_nil) (fun _ _ _ _ _ => (pe_callB (clK (rAny K) (cr_any rfl)) (by rfl) m_any (by decide +kernel) (pa_cons (pe_lc (own := [("one", 9), ("first", 10), ("last", 11)]) (g := gTup K 3 (gCons (gName 9) (gCons (gName 10) (gCons (gName 11) gNil)))) (tt := tYes) (by rfl) sc.nd  (piK (iList K _) (pi_list (pv 2))) (blkOk_by (own := [("one", 9), ("first", 10), ("last", 11)]) (N := ["house", "tape", "stretches", "rooms_left", "door", "way", "at", "rooms", "room", "one", "first", "last"]) (sc := { kind := PySem.ScopeKind.function, names := [ (PySem.Str.ofString ".0", PySem.NameKind.local), (PySem.Str.ofString "room", PySem.NameKind.cell), (PySem.Str.ofString "any", PySem.NameKind.globalImplicit), (PySem.Str.ofString "at", PySem.NameKind.cell), (PySem.Str.ofString "stretches", PySem.NameKind.cell)], isGenerator := false, isCoroutine := false, more := [] : PySem.Scope }) (by decide +kernel)) (fun _ _ _ _ _ => (pg_tup (by rfl) (pgs_cons (pg_name (i := 9) sc.nd rfl (.inl rfl)) (pgs_cons (pg_name (i := 10) sc.nd rfl (.inl rfl)) (pgs_cons (pg_name (i := 11) sc.nd rfl (.inl rfl)) pgs_nil))))) (fun _ _ _ _ _ => pts_nil) (fun _ _ _ _ _ => (pe_and (pe_cmpR op_eq (pv 8) (pv 9) (nomark _)) (pe_one (pe_chain op_le op_le (pv 10) (pe_op op_add (pv 6) pe_int) (pv 11)))))) pa_nil))))))))), ?_⟩
  try dsimp only [cxOf, L2.Cx.nox]
  refine fn_ds (fun i => [.d (houseD i.t.rooms i.t.ds), .d (tapeD i.t.bs i.t.ls), .d (.list (i.rows.map srD)), .un, .un, .un, .un, .un, .un, .un, .un, .un]) h (fun i => rfl) fun i ν hp => ?_
  obtain ⟨ok, hn⟩ := hp
  refine ds_seq (ds_set rfl (Do.de (do_lck rfl ?_)))
  walk_at "de"
  refine lcM beadD i.t.bs (fun b => .tuple ((leftRooms i.t.ds b).map fun (r : Nat) => .int (r : Int))) (small_of ok.lb (by decide)) rfl (fun b hb => ?_) ?_
  · obtain ⟨q1, q2, q3⟩ := ok.beads b hb
    obtain ⟨d, ed⟩ : ∃ d, i.t.ds[b.1]? = some d := ⟨_, List.getElem?_eq_getElem q1⟩
    have eg : i.t.ds.getD b.1 (0, 0) = d := by rw [List.getD_eq_getElem?_getD, ed]; rfl
    walk_at "nrm"
    walk_at "de"
    refine ⟨fun e => ?_, fun e => ?_⟩
    · have e' : b.2 = -1 := of_decide_eq_true e
      walk_at "de"
      refine ⟨_, atD_map (f := pairD) ed, rfl, ?_⟩
      unfold leftRooms
      rw [eg, if_pos e']; rfl
    · have e' : ¬ b.2 = -1 := of_decide_eq_false e
      refine de_slTT (dT_ixL ?_)
      walk_at "de"
      refine ⟨_, atD_map (f := pairD) ed, ?_⟩
      walk_at "de"
      rcases (by omega : b.2 = 0 ∨ b.2 = 1) with e0 | e1
      · rw [e0]
        refine ⟨by show ¬ (HT.sIx 2 0 (some 0) = 0 ∧ HT.sIx 2 2 (some 1) = 2); decide, rfl, ?_⟩
        unfold leftRooms
        rw [eg, if_neg e', if_pos e0]; rfl
      · rw [e1]
        refine ⟨by show ¬ (HT.sIx 2 0 (some 1) = 0 ∧ HT.sIx 2 2 (some 2) = 2); decide, rfl, ?_⟩
        unfold leftRooms
        rw [eg, if_neg e', if_neg (by omega)]; rfl
  walk_at "nrm"
  refine ds_ret (Do.de (do_lck rfl ?_))
  walk_at "de"
  rw [enumD_map]
  refine lcM (fun p : Bead × Nat => .tuple [.int (p.2 : Int), .tuple ((leftRooms i.t.ds p.1).map fun (r : Nat) => .int (r : Int))]) i.t.bs.zipIdx (fun p => .list (((leftRooms i.t.ds p.1).map (hitB i.rows p.2)).map .bool)) (small_of (by rw [List.length_zipIdx]; exact ok.lb) (by decide)) rfl (fun p hp => ?_) ?_
  · have hlr : (leftRooms i.t.ds p.1).length ≤ 2 := by
      unfold leftRooms
      dsimp only
      split <;> simp
    walk_at "de"
    walk_at "nrm"
    refine Do.de (do_lck rfl (di_tup (de_var rfl ⟨_, rfl, ?_⟩)))
    refine lcM (fun (r : Nat) => PyData.int (r : Int)) (leftRooms i.t.ds p.1) (fun r => .bool (hitB i.rows p.2 r)) (szL (by omega)) rfl (fun r hr => ?_) ⟨rfl, by rw [List.map_map]; rfl⟩
    walk_at "nrm"
    refine dg_name rfl (by simp) (de_any (Do.de (do_lck rfl ?_)))
    walk_at "de"
    refine lcM srD i.rows (fun s => .bool (inStr p.2 r s)) (szL (by omega)) rfl (fun s hs => ?_) ?_
    · dsimp only [srD]
      walk_at "nrm"
      walk_at "de"
      refine ⟨fun e => ?_, fun e => ⟨rfl, by unfold inStr; rw [e, Bool.false_and]⟩⟩
      walk_at "de"
      refine ⟨fun e2 => ?_, fun e2 => ⟨rfl, by unfold inStr; rw [e, e2, Bool.true_and, Bool.false_and]⟩⟩
      walk_at "de"
      exact ⟨rfl, by unfold inStr; rw [e, e2, Bool.true_and, Bool.true_and]⟩
    · refine ⟨i.rows.map (inStr p.2 r), by rw [List.map_map]; rfl, rfl, ?_⟩
      rw [List.any_map]; rfl
  · show Sl.d _ = Sl.d _
    unfold withinL
    rw [List.map_map]; rfl
end
end Bd
namespace Bd
open PySem PySem.Spec PyProof.Rows L2 HT
local macro_rules | `(tactic| walk_at "de1") => `(tactic| (with_reducible first
  | refine dI_var rfl ?_ | refine dI_c ?_ | refine dI_op0 ?_ | refine dI_op ?_ | refine dI_un ?_ | refine dI_ixO rfl ?_ | refine dI_ixT ?_ | refine dI_ixL ?_ | refine dI_if ?_ | refine dI_lenO rfl ?_ | refine dI_lenL ?_ | refine dI_abs ?_ | refine dI_two ?_ | refine dI_intB ?_
  | refine dB_var rfl ?_ | refine dB_c ?_ | refine dB_op0 ?_ | refine dB_eqI ?_ | refine dB_neI ?_ | refine dB_inI ?_ | refine dB_not ?_ | refine dB_and ?_ | refine dB_or ?_ | refine dB_chain ?_ | refine dB_eqD ?_ | refine dB_neD ?_ | refine dB_isi ?_
  | refine dL_var rfl ?_ | refine dL_ixO rfl ?_ | refine dL_ixT ?_ | refine dL_ixL ?_ | refine dL_o ?_
  | refine dT_var rfl ?_ | refine dT_ixL ?_ | refine dT_ixT ?_ | refine dT_tup ?_ | refine dT_slT ?_ | refine dT_catT ?_
  | refine de_var rfl ?_ | refine dX_ixO rfl ?_ | refine dX_ixT ?_ | refine dX_ixL ?_ | refine de_tup ?_ | refine de_c rfl ?_ | refine de_if ?_ | refine Do.de (do_lst ?_) | refine de_catTT ?_ | refine de_slTT ?_
  | refine dI_e (dI_op0 ?_) | refine dI_e (dI_op ?_) | refine dI_e (dI_un ?_) | refine dI_e (dI_lenO rfl ?_) | refine dI_e (dI_lenL ?_) | refine dI_e (dI_abs ?_) | refine dI_e (dI_two ?_) | refine dI_e (dI_intB ?_)
  | refine dB_e (dB_op0 ?_) | refine dB_e (dB_eqI ?_) | refine dB_e (dB_neI ?_) | refine dB_e (dB_inI ?_) | refine dB_e (dB_not ?_) | refine dB_e (dB_and ?_) | refine dB_e (dB_or ?_) | refine dB_e (dB_chain ?_) | refine dB_e (dB_eqD ?_) | refine dB_e (dB_neD ?_)
  | refine dt_tB ?_ | refine dt_tTest ?_ | refine dt_not ?_ | refine dt_and ?_ | refine dt_or ?_ | refine dt_yes ?_
  | refine da_nil ?_ | refine da_cons ?_ | refine dp_no ?_ | refine dp_partI ?_
  | refine di_rngI ?_ | refine di_listL ?_ | refine di_zipL ?_ | refine di_enumL ?_
  | refine do_lck rfl ?_ | refine do_lst ?_ | refine do_catL ?_ | refine do_slLL ?_ | refine do_revL ?_
  | refine dg_nm rfl ?_ | refine dg_name rfl (by simp) ?_ | refine dg_tup rfl ?_ | refine dgs_cons ?_ | refine dgs_nil ?_))
local macro_rules | `(tactic| walk_at "de") => `(tactic| (repeat (first | walk_at "de1" | (refine ⟨_, rfl, ?_⟩))))
local macro_rules | `(tactic| walk_at "nrm") => `(tactic| (try dsimp only [List.set, toD, wipeR, List.map, pairD, beadD, lookD]))

abbrev sBetween : Stmt := topS 17
theorem scBetween : FnScope ["house", "begin", "tape", "stretches", "out_by_last", "out_ahead", "by_last", "room", "_", "last", "first"] ["house", "begin", "tape", "stretches", "out_by_last", "out_ahead"] (defScope sBetween) := ⟨rfl, rfl, rfl, by decide +kernel, rfl, by decide +kernel, by decide +kernel⟩
abbrev sPaperRight : Stmt := topS 13
theorem scPaperRight : FnScope ["house", "begin", "tape", "paper", "stretches", "within", "bound", "free", "rooms"] ["house", "begin", "tape", "paper"] (defScope sPaperRight) := ⟨rfl, rfl, rfl, by decide +kernel, rfl, by decide +kernel, by decide +kernel⟩
def outB (g : Bool) (t : Tq) (r m : Nat) : Int := match g with
  | true => mostOut t.ds t.B t.bs t.ls r m
  | false => leastOut t.ds t.B t.bs t.ls r m
def spOutB (K : PySem.W.Frag) (g : Bool) : Sp := match g with
  | true => spMost K
  | false => spLeast K
/-- what is let out by the last moments, less what is ahead of the first ones -/
def btw (g1 g2 : Bool) (t : Tq) (rows : List Sr) : Int := (rows.map fun s => outB g1 t s.1 s.2.2).sum - (rows.map fun s => outB g2 t s.1 (s.2.1 - 1)).sum
structure Bw where
  t : Tq
  rows : List Sr
  g1 : Bool
  g2 : Bool
def Bw.arg (i : Bw) : List PyData := [houseD i.t.rooms i.t.ds, intsD i.t.B, tapeD i.t.bs i.t.ls, .list (i.rows.map srD)]
def fOf (fm fl : Addr) (g : Bool) : Addr := if g then fm else fl
def spBtw (K : PySem.W.Frag) (fm fl : Addr) : Sp := spT (ι := Bw) K Bw.arg (fun i => [.ref (fOf fm fl i.g1), .ref (fOf fm fl i.g2)]) (fun i => i.t.Ok ∧ Sts i.t.rooms i.t.bs.length i.rows) (fun i s => s = .d (.int (btw i.g1 i.g2 i.t i.rows)))
noncomputable def selF (K : PySem.W.Frag) (fm fl : Addr) : Addr → Option Sp := fun f => if f = fm then some (spMost K) else if f = fl then some (spLeast K) else none
theorem selF_of {K : PySem.W.Frag} {fm fl : Addr} (hne : fm ≠ fl) (g : Bool) : selF K fm fl (fOf fm fl g) = some (spOutB K g) := by
  cases g with
  | true => show (if fm = fm then _ else _) = _; rw [if_pos rfl]; rfl
  | false => show (if fl = fm then _ else if fl = fl then _ else _) = _; rw [if_neg hne.symm, if_pos rfl]; rfl
/-- a judge's sum, called -/
theorem de_outB {K : PySem.W.Frag} {W : Wd} {ρ : List Sl} {ν : Nat} {g : Bool} {tr : TA} {Φ : Nat → PyData → Prop} (h : Da K W ρ ν tr fun ν1 xs => ∃ t : Tp, xs = t.arg ∧ t.Ok ∧ Φ ν1 (.int (outB g ⟨t.rooms, t.ds, t.B, t.bs, t.ls⟩ t.r t.m))) : De K W ρ ν (tCall (spOutB K g) [] E0 tr) Φ := by
  cases g with
  | true => exact de_call0 fun S B σ H Q st q => h S B σ H Q st fun n vs H' xs k i d ⟨t, e, ok, p⟩ => q n vs H' xs k i d ⟨t, e, ok, fun ν2 s hs => ⟨_, hs, p⟩⟩
  | false => exact de_call0 fun S B σ H Q st q => h S B σ H Q st fun n vs H' xs k i d ⟨t, e, ok, p⟩ => q n vs H' xs k i d ⟨t, e, ok, fun ν2 s hs => ⟨_, hs, p⟩⟩
inductive Sheet
  | look (m r : Nat)
  | rows (many : Bool) (rs : List Sr)
def kindW : Bool → Str
  | true => "many"
  | false => "few"
def sheetD : Sheet → PyData
  | .look m r => .tuple [.str "look", .int m, .int r]
  | .rows b rs => .tuple [.str (kindW b), .list (rs.map srD)]
def boundN (t : Tq) (rs : List Sr) : Nat := ((withinL t.ds t.bs rs).filter fun x => x.all id).length
def freeN (t : Tq) (rs : List Sr) : Nat := ((withinL t.ds t.bs rs).filter fun x => x.any id).length
structure Pp where
  t : Tq
  s : Sheet
def paperB (i : Pp) : Bool := match i.s with
  | .look m r => lookedB ⟨i.t, r, m⟩
  | .rows true rs => decide (btw true false i.t rs < (boundN i.t rs : Int))
  | .rows false rs => decide ((freeN i.t rs : Int) < btw false true i.t rs)
def Pp.Ok (i : Pp) : Prop := i.t.Ok ∧ match i.s with
  | .look m r => m ≤ i.t.bs.length ∧ r < i.t.rooms
  | .rows _ rs => Sts i.t.rooms i.t.bs.length rs
def Pp.arg (i : Pp) : List PyData := [houseD i.t.rooms i.t.ds, intsD i.t.B, tapeD i.t.bs i.t.ls, sheetD i.s]
def spPaper (K : PySem.W.Frag) : Sp := spD (ι := Pp) K Wn [] Pp.arg (fun i _ => i.Ok) (fun i _ _ s => s = .d (.bool (paperB i)))
section
variable {P : Program} {w : World} {K : PySem.W.Frag} {mg : Str → Option Value} {base : Heap}
theorem ok_between {fm fl : Addr} (hne : fm ≠ fl) {f : Addr} {fd : FuncData} (F : Fun K "_between" "_between" sBetween f fd) (hA : ∀ f sp, selF K fm fl f = some sp → HeldG P w K mg base 2 f sp) (m_sum : mg "sum" = none) : FnG P w K mg base 3 f fd ["house", "begin", "tape", "stretches", "out_by_last", "out_ahead"] (spBtw K fm fl) := by
  have sc := scBetween
  refine fnG_of F scBetween (fun vs H Q E h => spT_len h fun i => rfl) (fun cdv A outer s H vs Q E hr hg h => ?_)
  refine ⟨_, (pss_cons (ps_set (i := 6) sc.nd rfl (.inl rfl) (pe_callB (cr_sum rfl) (by rfl) m_sum (by decide +kernel) (pa_cons (pe_lc (own := [("room", 7), ("_", 8), ("last", 9)]) (g := gTup K 3 (gCons (gName 7) (gCons (gName 8) (gCons (gName 9) gNil)))) (tt := tYes) (by rfl) sc.nd  (pi_list (pv 3)) (blkOk_by (own := [("room", 7), ("_", 8), ("last", 9)]) (N := ["house", "begin", "tape", "stretches", "out_by_last", "out_ahead", "by_last", "room", "_", "last", "first"]) (sc := defScope sBetween) (by decide +kernel)) (fun _ _ _ _ _ => (pg_tup (by rfl) (pgs_cons (pg_name (i := 7) sc.nd rfl (.inl rfl)) (pgs_cons (pg_name (i := 8) sc.nd rfl (.inl rfl)) (pgs_cons (pg_name (i := 9) sc.nd rfl (.inl rfl)) pgs_nil))))) (fun _ _ _ _ _ => pts_nil) (fun _ _ _ _ _ => (pe_gA (i := 4) hA hg hr (by first | decide | exact Nat.le_refl _ | omega) (by rfl) (by first | exact Or.inl rfl | exact Or.inr (Or.inl rfl) | exact Or.inr (Or.inr rfl)) (pa_cons (pv 0) (pa_cons (pv 1) (pa_cons (pv 2) (pa_cons (pv 7) (pa_cons (pv 9) pa_nil)))))))) pa_nil)))
  (pss_one (ps_ret (pe_op op_sub (pv 6) (pe_callB (cr_sum rfl) (by rfl) m_sum (by decide +kernel) (pa_cons (pe_lc (own := [("room", 7), ("first", 10), ("_", 8)]) (g := gTup K 3 (gCons (gName 7) (gCons (gName 10) (gCons (gName 8) gNil)))) (tt := tYes) (by rfl) sc.nd  (pi_list (pv 3)) (blkOk_by (own := [("room", 7), ("first", 10), ("_", 8)]) (N := ["house", "begin", "tape", "stretches", "out_by_last", "out_ahead", "by_last", "room", "_", "last", "first"]) (sc := defScope sBetween) (by decide +kernel)) (fun _ _ _ _ _ => (pg_tup (by rfl) (pgs_cons (pg_name (i := 7) sc.nd rfl (.inl rfl)) (pgs_cons (pg_name (i := 10) sc.nd rfl (.inl rfl)) (pgs_cons (pg_name (i := 8) sc.nd rfl (.inl rfl)) pgs_nil))))) (fun _ _ _ _ _ => pts_nil) (fun _ _ _ _ _ => (pe_gA (i := 5) hA hg hr (by first | decide | exact Nat.le_refl _ | omega) (by rfl) (by first | exact Or.inl rfl | exact Or.inr (Or.inl rfl) | exact Or.inr (Or.inr rfl)) (pa_cons (pv 0) (pa_cons (pv 1) (pa_cons (pv 2) (pa_cons (pv 7) (pa_cons (pe_op op_sub (pv 10) pe_int) pa_nil)))))))) pa_nil)))))), ?_⟩
  try dsimp only [cxOf, L2.Cx.nox]
  refine fn_dsT (fun i => [.d (houseD i.t.rooms i.t.ds), .d (intsD i.t.B), .d (tapeD i.t.bs i.t.ls), .d (.list (i.rows.map srD)), .at (.ref (fOf fm fl i.g1)), .at (.ref (fOf fm fl i.g2)), .un, .un, .un, .un, .un]) h (fun i => rfl) fun i hp => ?_
  obtain ⟨t, rows, g1, g2⟩ := i
  obtain ⟨ok, hs⟩ := hp
  dsimp only at ok hs ⊢
  refine ds_seq (ds_set rfl (dI_e (dI_sumL (dL_o (do_lck rfl ?_)))))
  walk_at "de"
  refine lcM srD rows (fun s => .int (outB g1 t s.1 s.2.2)) (small_of hs.len (by decide)) rfl (fun s hm => ?_) ?_
  · obtain ⟨s1, s2, s3, s4⟩ := hs.ok s hm
    dsimp only [srD]
    walk_at "nrm"
    walk_at "de"
    refine de_callA rfl (selF_of hne g1) (de_outB ?_)
    walk_at "de"
    exact ⟨⟨t.rooms, t.ds, t.B, t.bs, t.ls, s.1, s.2.2⟩, rfl, ok.tp s1, rfl, rfl⟩
  refine ⟨rows.map fun s => outB g1 t s.1 s.2.2, by rw [List.map_map]; rfl, ?_⟩
  walk_at "nrm"
  refine ds_ret (dI_e (dI_op0 (dI_var rfl (dI_sumL (dL_o (do_lck rfl ?_))))))
  walk_at "de"
  refine lcM srD rows (fun s => .int (outB g2 t s.1 (s.2.1 - 1))) (small_of hs.len (by decide)) rfl (fun s hm => ?_) ?_
  · obtain ⟨s1, s2, s3, s4⟩ := hs.ok s hm
    dsimp only [srD]
    walk_at "nrm"
    walk_at "de"
    refine de_callA rfl (selF_of hne g2) (de_outB ?_)
    walk_at "de"
    refine ⟨⟨t.rooms, t.ds, t.B, t.bs, t.ls, s.1, s.2.1 - 1⟩, ?_, ok.tp s1, rfl, rfl⟩
    unfold Tp.arg
    rw [show ((s.2.1 - 1 : Nat) : Int) = (s.2.1 : Int) - 1 by omega]
  exact ⟨rows.map fun s => outB g2 t s.1 (s.2.1 - 1), by rw [List.map_map]; rfl, rfl⟩
theorem ok_paper {fm fl : Addr} {f : Addr} {fd : FuncData} (F : Fun K "paper_right" "paper_right" sPaperRight f fd) (cal_look_right : Cg P w K mg base 3 "_look_right" (spLookR K)) (cal_are_stretches : Cg P w K mg base 1 "_are_stretches" (spStr K)) (cal_within : Cg P w K mg base 1 "_within" (spWithin K)) (cal_between : Cg P w K mg base 3 "_between" (spBtw K fm fl))
    (mg_most_out : mg "most_out" = some (.ref fm)) (mg_least_out : mg "least_out" = some (.ref fl)) (m_len : mg "len" = none) (m_all : mg "all" = none) (m_any : mg "any" = none) : FnG P w K mg base 4 f fd ["house", "begin", "tape", "paper"] (spPaper K) := by
  have sc := scPaperRight
  refine fnG_of F scPaperRight (fun vs H Q E h => spD_len h fun i => rfl) (fun cdv A outer s H vs Q E hr hg h => ?_)
  refine ⟨_, (pss_cons (ps_if (pt_cmpR op_eq (pe_ix ix_tup (pv 3) pe_int (fun _ _ => rfl)) pe_str (nomark _))
    (pss_one (ps_ret (pe_g cal_look_right hg hr (by first | decide | exact Nat.le_refl _ | omega) (by rfl) (pa_cons (pv 0) (pa_cons (pv 1) (pa_cons (pv 2) (pa_cons (pe_ix ix_tup (pv 3) pe_int (fun _ _ => rfl)) (pa_cons (pe_ix ix_tup (pv 3) pe_int (fun _ _ => rfl)) pa_nil))))))))
    pss_nil)
  (pss_cons (ps_if (PW.pt (pw_or (pt_cmpR op_notIn_seq (pe_ix ix_tup (pv 3) pe_int (fun _ _ => rfl)) (pe_tup (pa_cons pe_str (pa_cons pe_str pa_nil))) rfl) (pw_or1 (pt_not (pt_val (pe_g cal_are_stretches hg hr (by first | decide | exact Nat.le_refl _ | omega) (by rfl) (pa_cons (pv 0) (pa_cons (pv 2) (pa_cons (pe_ix ix_tup (pv 3) pe_int (fun _ _ => rfl)) pa_nil)))))))))
    (pss_one (ps_ret pe_bl))
    pss_nil)
  (pss_cons (ps_set (i := 4) sc.nd rfl (.inl rfl) (pe_ix ix_tup (pv 3) pe_int (fun _ _ => rfl)))
  (pss_cons (ps_set (i := 5) sc.nd rfl (.inl rfl) (pe_g cal_within hg hr (by first | decide | exact Nat.le_refl _ | omega) (by rfl) (pa_cons (pv 0) (pa_cons (pv 2) (pa_cons (pv 4) pa_nil)))))
  (pss_cons (ps_if (pt_cmpR op_eq (pe_ix ix_tup (pv 3) pe_int (fun _ _ => rfl)) pe_str (nomark _))
    (pss_cons (ps_set (i := 6) sc.nd rfl (.inl rfl) (pe_callB call_len_seq (by rfl) m_len PySem.boot_len (pa_cons (pe_lc (own := [("rooms", 8)]) (g := gName 8)  (by rfl) sc.nd  (pi_list (pv 5)) (blkOk_by (own := [("rooms", 8)]) (N := ["house", "begin", "tape", "paper", "stretches", "within", "bound", "free", "rooms"]) (sc := defScope sPaperRight) (by decide +kernel)) (fun _ _ _ _ _ => (pg_name (i := 8) sc.nd rfl (.inl rfl))) (fun _ _ _ _ _ => (pts_one (pt_val (pe_callB (clK (rAll K) (cr_all rfl)) (by rfl) m_all (by decide +kernel) (pa_cons (pv 8) pa_nil))))) (fun _ _ _ _ _ => (pv 8))) pa_nil)))
  (pss_one (ps_ret (pe_cmpR op_gt (pv 6) (pe_g cal_between hg hr (by first | decide | exact Nat.le_refl _ | omega) (by rfl) (pa_cons (pv 0) (pa_cons (pv 1) (pa_cons (pv 2) (pa_cons (pv 4) (pa_cons (pe_glob (v := V.ref fm) rfl mg_most_out rfl) (pa_cons (pe_glob (v := V.ref fl) rfl mg_least_out rfl) pa_nil))))))) (nomark _)))))
    pss_nil)
  (pss_cons (ps_set (i := 7) sc.nd rfl (.inl rfl) (pe_callB call_len_seq (by rfl) m_len PySem.boot_len (pa_cons (pe_lc (own := [("rooms", 8)]) (g := gName 8)  (by rfl) sc.nd  (pi_list (pv 5)) (blkOk_by (own := [("rooms", 8)]) (N := ["house", "begin", "tape", "paper", "stretches", "within", "bound", "free", "rooms"]) (sc := defScope sPaperRight) (by decide +kernel)) (fun _ _ _ _ _ => (pg_name (i := 8) sc.nd rfl (.inl rfl))) (fun _ _ _ _ _ => (pts_one (pt_val (pe_callB (clK (rAny K) (cr_any rfl)) (by rfl) m_any (by decide +kernel) (pa_cons (pv 8) pa_nil))))) (fun _ _ _ _ _ => (pv 8))) pa_nil)))
  (pss_one (ps_ret (pe_cmpR op_lt (pv 7) (pe_g cal_between hg hr (by first | decide | exact Nat.le_refl _ | omega) (by rfl) (pa_cons (pv 0) (pa_cons (pv 1) (pa_cons (pv 2) (pa_cons (pv 4) (pa_cons (pe_glob (v := V.ref fl) rfl mg_least_out rfl) (pa_cons (pe_glob (v := V.ref fm) rfl mg_most_out rfl) pa_nil))))))) (nomark _)))))))))), ?_⟩
  dsimp only [cxOf, L2.Cx.nox]
  refine fn_ds (fun i => [.d (houseD i.t.rooms i.t.ds), .d (intsD i.t.B), .d (tapeD i.t.bs i.t.ls), .d (sheetD i.s), .un, .un, .un, .un, .un]) h (fun i => rfl) fun i ν hp => ?_
  obtain ⟨t, sh⟩ := i
  obtain ⟨ok, hs⟩ := hp
  dsimp only at ok hs ⊢
  cases sh with
  | look m r =>
    dsimp only at hs
    dsimp only [sheetD]
    refine ds_seq (ds_if (dt_tTest (dB_eqS ?_)))
    walk_at "de"
    refine ⟨_, _, rfl, rfl, fun _ => ds_ret (de_call0 ?_), fun e => absurd e (by decide +kernel)⟩
    walk_at "de"
    refine ⟨⟨t, r, m⟩, rfl, ⟨ok, hs.1, hs.2⟩, fun n s es => ⟨_, es, rfl⟩⟩
  | rows b rs =>
    dsimp only at hs
    dsimp only [sheetD]
    have kne : decide (kindW b = "look") = false := by cases b <;> decide +kernel
    have kin : decide (kindW b ∈ (["many", "few"] : List Str)) = true := by cases b <;> decide +kernel
    refine ds_seq (ds_if (dt_tTest (dB_eqS ?_)))
    walk_at "de"
    refine ⟨_, _, rfl, rfl, ?_⟩
    refine ⟨(fun e => by rw [kne] at e; cases e), fun _ => ds_next ?_⟩
    refine ds_seq (ds_if (dt_or (dt_tTest (dB_inS ?_))))
    walk_at "de"
    refine ⟨szd rfl, _, ["many", "few"], rfl, rfl, ?_⟩
    rw [kin]
    refine ⟨(fun z => absurd z (by decide)), fun _ => dt_not (dt_tB (dB_call0 ?_))⟩
    walk_at "de"
    refine ⟨⟨t, rs⟩, rfl, ⟨ok, hs⟩, fun n s es => ⟨_, es, (fun z => absurd z (by decide)), fun _ => ds_next ?_⟩⟩
    refine ds_seq (ds_set rfl ?_)
    walk_at "de"
    walk_at "nrm"
    refine ds_seq (ds_set rfl (de_call0 ?_))
    walk_at "de"
    refine ⟨⟨t, rs⟩, rfl, ⟨ok, hs.len⟩, fun n s es => ⟨_, es, ?_⟩⟩
    walk_at "nrm"
    have hwl : (withinL t.ds t.bs rs).length ≤ 10000 := by unfold withinL; rw [List.length_map, List.length_zipIdx]; exact ok.lb
    refine ds_seq (ds_if (dt_tTest (dB_eqS ?_)))
    walk_at "de"
    refine ⟨_, _, rfl, rfl, ?_⟩
    cases b with
    | true =>
      refine ⟨fun _ => ?_, fun e => absurd e (by decide +kernel)⟩
      refine ds_seq (ds_set rfl (dI_e ?_))
      walk_at "de"
      refine lcF (fun x : List Bool => PyData.list (x.map .bool)) (withinL t.ds t.bs rs) (fun x => x.all id) (fun x => .list (x.map .bool)) (small_of hwl (by decide)) rfl (fun x hx => ?_) ?_
      · walk_at "nrm"
        refine dg_name rfl (by simp) (dt_tB (de_all (de_var rfl ⟨x, rfl, _, rfl, rfl, rfl, fun _ => ?_⟩)))
        walk_at "de"
        exact ⟨rfl, rfl⟩
      rw [List.length_map]
      walk_at "nrm"
      refine ds_ret (dB_e (dB_op0 (dI_var rfl ((de_callT rfl rfl rfl rfl ⟨⟨t, rs, true, false⟩, rfl, rfl, ⟨ok, hs⟩, fun s es => ⟨_, es, _, rfl, ?_⟩⟩)))))
      rfl
    | false =>
      refine ⟨(fun e => absurd e (by decide +kernel)), fun _ => ds_next ?_⟩
      refine ds_seq (ds_set rfl (dI_e ?_))
      walk_at "de"
      refine lcF (fun x : List Bool => PyData.list (x.map .bool)) (withinL t.ds t.bs rs) (fun x => x.any id) (fun x => .list (x.map .bool)) (small_of hwl (by decide)) rfl (fun x hx => ?_) ?_
      · walk_at "nrm"
        refine dg_name rfl (by simp) (dt_tB (de_any (de_var rfl ⟨x, rfl, _, rfl, rfl, rfl, fun _ => ?_⟩)))
        walk_at "de"
        exact ⟨rfl, rfl⟩
      rw [List.length_map]
      walk_at "nrm"
      refine ds_ret (dB_e (dB_op0 (dI_var rfl ((de_callT rfl rfl rfl rfl ⟨⟨t, rs, false, true⟩, rfl, rfl, ⟨ok, hs⟩, fun s es => ⟨_, es, _, rfl, ?_⟩⟩)))))
      rfl
end
end Bd
namespace Bd
open PySem PySem.Spec PyProof.Rows L2 HT
local macro_rules | `(tactic| walk_at "de1") => `(tactic| (with_reducible first
  | refine dI_var rfl ?_ | refine dI_c ?_ | refine dI_op0 ?_ | refine dI_op ?_ | refine dI_un ?_ | refine dI_ixO rfl ?_ | refine dI_ixT ?_ | refine dI_ixL ?_ | refine dI_if ?_ | refine dI_lenO rfl ?_ | refine dI_lenL ?_ | refine dI_abs ?_ | refine dI_two ?_ | refine dI_intB ?_
  | refine dB_var rfl ?_ | refine dB_c ?_ | refine dB_op0 ?_ | refine dB_eqI ?_ | refine dB_neI ?_ | refine dB_inI ?_ | refine dB_not ?_ | refine dB_and ?_ | refine dB_or ?_ | refine dB_chain ?_ | refine dB_eqD ?_ | refine dB_neD ?_ | refine dB_isi ?_
  | refine dL_var rfl ?_ | refine dL_ixO rfl ?_ | refine dL_ixT ?_ | refine dL_ixL ?_ | refine dL_o ?_
  | refine dT_var rfl ?_ | refine dT_ixL ?_ | refine dT_ixT ?_ | refine dT_tup ?_ | refine dT_slT ?_ | refine dT_catT ?_
  | refine de_var rfl ?_ | refine dX_ixO rfl ?_ | refine dX_ixT ?_ | refine dX_ixL ?_ | refine de_tup ?_ | refine de_c rfl ?_ | refine de_if ?_ | refine Do.de (do_lst ?_) | refine de_catTT ?_ | refine de_slTT ?_
  | refine dI_e (dI_op0 ?_) | refine dI_e (dI_op ?_) | refine dI_e (dI_un ?_) | refine dI_e (dI_lenO rfl ?_) | refine dI_e (dI_lenL ?_) | refine dI_e (dI_abs ?_) | refine dI_e (dI_two ?_) | refine dI_e (dI_intB ?_)
  | refine dB_e (dB_op0 ?_) | refine dB_e (dB_eqI ?_) | refine dB_e (dB_neI ?_) | refine dB_e (dB_inI ?_) | refine dB_e (dB_not ?_) | refine dB_e (dB_and ?_) | refine dB_e (dB_or ?_) | refine dB_e (dB_chain ?_) | refine dB_e (dB_eqD ?_) | refine dB_e (dB_neD ?_)
  | refine dt_tB ?_ | refine dt_tTest ?_ | refine dt_not ?_ | refine dt_and ?_ | refine dt_or ?_ | refine dt_yes ?_
  | refine da_nil ?_ | refine da_cons ?_ | refine dp_no ?_ | refine dp_partI ?_
  | refine di_rngI ?_ | refine di_listL ?_ | refine di_zipL ?_ | refine di_enumL ?_
  | refine do_lck rfl ?_ | refine do_lst ?_ | refine do_catL ?_ | refine do_slLL ?_ | refine do_revL ?_
  | refine dg_nm rfl ?_ | refine dg_name rfl (by simp) ?_ | refine dg_tup rfl ?_ | refine dgs_cons ?_ | refine dgs_nil ?_))
local macro_rules | `(tactic| walk_at "de") => `(tactic| (repeat (first | walk_at "de1" | (refine ⟨_, rfl, ?_⟩))))
local macro_rules | `(tactic| walk_at "nrm") => `(tactic| (try dsimp only [List.set, toD, wipeR, List.map, pairD, beadD, lookD]))

abbrev sLawOuts : Stmt := topS 27
theorem scLawOuts : FnScope ["home", "start", "reel", "spot", "when", "count", "here", "top", "halves", "bead", "look"] ["home", "start", "reel", "spot", "when"] (defScope sLawOuts) := ⟨rfl, rfl, rfl, by decide +kernel, rfl, by decide +kernel, by decide +kernel⟩
abbrev sLawAreStretches : Stmt := topS 28
theorem scLawAreStretches : FnScope ["home", "reel", "rows", "many", "bad", "row", "k"] ["home", "reel", "rows"] (defScope sLawAreStretches) := ⟨rfl, rfl, rfl, by decide +kernel, rfl, by decide +kernel, by decide +kernel⟩
abbrev sLawLookedWrong : Stmt := topS 29
theorem scLawLookedWrong : FnScope ["home", "start", "reel", "when", "spot", "wrong", "outs", "look"] ["home", "start", "reel", "when", "spot"] (defScope sLawLookedWrong) := ⟨rfl, rfl, rfl, by decide +kernel, rfl, by decide +kernel, by decide +kernel⟩
/-- the law's own sums -/
def spOuts (K : PySem.W.Frag) : Sp := spD K Wn [] Tp.arg (fun t _ => t.Ok) (fun t _ _ s => s = .d (intsD [leastOut t.ds t.B t.bs t.ls t.r t.m, mostOut t.ds t.B t.bs t.ls t.r t.m]))
theorem half_up (z : Int) : (z + z % 2) / 2 = (z + 1) / 2 := by omega
theorem half_dn (z : Int) : (z - z % 2) / 2 = z / 2 := by omega
theorem alike_sr (a b : Sr) : PySem.W.alike (srD a) (srD b) = true := rfl
theorem alike_rows (rows : List Sr) : PySem.W.AllAlike (rows.map srD) := fun d hd d' hd' => by
  obtain ⟨a, _, rfl⟩ := List.mem_map.mp hd
  obtain ⟨b, _, rfl⟩ := List.mem_map.mp hd'
  exact alike_sr a b
theorem sortable_rows (rows : List Sr) : PySem.W.Sortable (rows.map srD) := .inl fun d hd => by
  obtain ⟨a, _, rfl⟩ := List.mem_map.mp hd
  exact ⟨_, _, rfl⟩
theorem le_sr {a b : Sr} (h : a.1 < b.1) : PySem.W.dataLe false id (srD a) (srD b) = true := by
  have e1 : decide ((b.1 : Int) < (a.1 : Int)) = false := decide_eq_false (by omega)
  have e2 : decide ((a.1 : Int) < (b.1 : Int)) = true := decide_eq_true (by omega)
  show (!(decide ((1 : Int) < 1) || (!decide ((1 : Int) < 1) && (decide ((b.1 : Int) < (a.1 : Int)) || (!decide ((a.1 : Int) < (b.1 : Int)) && _))))) = true
  rw [e1, e2]; rfl
theorem sorted_rows {rows : List Sr} (h : rows.Pairwise (fun a b => a.1 < b.1)) : (rows.map srD).Pairwise (fun a b => PySem.W.dataLe false id a b = true) := by
  rw [List.pairwise_map]
  exact h.imp fun h => le_sr h
theorem shp_sr (a : Sr) : Shp 1 (srD a) := shp_tup fun x hx => by
  simp only [List.mem_cons, List.not_mem_nil, or_false] at hx
  rcases hx with rfl | rfl | rfl <;> exact shp_int _
theorem shp_rows (rows : List Sr) : Shp 2 (.list (rows.map srD)) := shp_mapL rows shp_sr
theorem deep_rows (rows : List Sr) : ∀ d ∈ rows.map srD, d.depth ≤ 10 := fun d hd => by
  obtain ⟨a, _, rfl⟩ := List.mem_map.mp hd
  exact Nat.le_trans (shp_sr a).2 (by decide)
theorem shp_lk (l : Lk) : Shp 1 (lookD l) := shp_tup fun x hx => by
  simp only [List.mem_cons, List.not_mem_nil, or_false] at hx
  rcases hx with rfl | rfl | rfl | rfl <;> exact shp_int _
theorem eqv_two (a b c d : Int) : PyData.eqv (.tuple [.int a, .int b]) (.tuple [.int c, .int d]) = (decide (a = c) && decide (b = d)) := by
  show ((a == c) && ((b == d) && true)) = _
  rw [Bool.and_true]
  by_cases h1 : a = c <;> by_cases h2 : b = d <;> simp [h1, h2]
/-- a look at first, of this room, that is wrong -/
def wrongOf (B : List Int) (r : Nat) (l : Lk) : Bool := (decide (l.1 = 0) && decide (l.2.1 = (r : Int))) && !(decide (l.2.2.1 ≤ B.getD r 0) && decide (B.getD r 0 ≤ l.2.2.2))
theorem wrong_eq (B : List Int) (ls : List Lk) (r : Nat) : (!decide ((ls.filter (wrongOf B r)).map lookD = [])) = decide ((r : Int) ∈ wrongs B ls) := by
  rw [Bool.eq_iff_iff, Bool.not_eq_true', decide_eq_false_iff_not, decide_eq_true_eq, List.map_eq_nil_iff, List.filter_eq_nil_iff]
  unfold wrongs
  rw [List.mem_map]
  constructor
  · intro h
    apply Classical.byContradiction
    intro h2
    apply h
    intro l hl hw
    apply h2
    refine ⟨l, List.mem_filter.mpr ⟨hl, ?_⟩, ?_⟩
    · unfold wrongOf at hw
      simp only [Bool.and_eq_true, decide_eq_true_eq] at hw
      unfold wrongAt
      rw [hw.1.2, Int.toNat_natCast, decide_eq_true hw.1.1, Bool.true_and]
      exact hw.2
    · unfold wrongOf at hw
      simp only [Bool.and_eq_true, decide_eq_true_eq] at hw
      exact hw.1.2
  · rintro ⟨l, hl, e⟩ h
    obtain ⟨hl, hw⟩ := List.mem_filter.mp hl
    apply h l hl
    unfold wrongAt at hw
    rw [e, Int.toNat_natCast] at hw
    unfold wrongOf
    simp only [Bool.and_eq_true, decide_eq_true_eq] at hw ⊢
    exact ⟨⟨hw.1, e⟩, hw.2⟩
section
variable {P : Program} {w : World} {K : PySem.W.Frag} {mg : Str → Option Value} {base : Heap}
theorem ok_outs {f : Addr} {fd : FuncData} (F : Fun K "_law_outs" "_law_outs" sLawOuts f fd) (m_len : mg "len" = none) (m_max : mg "max" = none) : FnG P w K mg base 1 f fd ["home", "start", "reel", "spot", "when"] (spOuts K) := by
  have sc := scLawOuts
  refine fnG_of F scLawOuts (fun vs H Q E h => spD_len h fun i => rfl) (fun cdv A outer s H vs Q E hr hg h => ?_)
  refine ⟨_, (pss_cons (ps_if (pt_cmpR op_eq (pv 4) pe_int (nomark _))
    (pss_one (ps_ret (pe_lst (pa_cons pe_int (pa_cons pe_int pa_nil)))))
    pss_nil)
  (pss_cons (ps_set (i := 5) sc.nd rfl (.inr rfl) (pe_op op_add (pe_ix ix_list (pv 1) (pv 3) (fun _ _ => rfl)) (pe_callB call_len_seq (by rfl) m_len PySem.boot_len (pa_cons (pe_lc (own := [("bead", 9)]) (g := gName 9)  (by rfl) sc.nd  (pi_list (pe_slice sl_list (pe_ix ix_tup (pv 2) pe_int (fun _ _ => rfl)) po_none (po_some (pv 4)))) (blkOk_by (own := [("bead", 9)]) (N := ["home", "start", "reel", "spot", "when", "count", "here", "top", "halves", "bead", "look"]) (sc := defScope sLawOuts) (by decide +kernel)) (fun _ _ _ _ _ => (pg_name (i := 9) sc.nd rfl (.inl rfl))) (fun _ _ _ _ _ => (pts_one (pt_cmpR (opK (rIn K false) op_in_seq) (pv 3) (pe_ix (ixK (rIxL K) ix_list) (pe_ix (ixK (rIxT K) ix_tup) (pv 0) pe_int (fun _ _ => rfl)) (pe_ix (ixK (rIxT K) ix_tup) (pv 9) pe_int (fun _ _ => rfl)) (fun _ _ => rfl)) rfl))) (fun _ _ _ _ _ => (pv 9))) pa_nil))))
  (pss_cons (ps_setLc (i := 6) (own := [("look", 10)]) (g := gName 10)  (by rfl) sc.nd rfl rfl (sw_true rfl rfl rfl (by decide +kernel)) (pi_list (pe_ix ix_tup (pv 2) pe_int (fun _ _ => rfl))) (blkOk_by (own := [("look", 10)]) (N := ["home", "start", "reel", "spot", "when", "count", "here", "top", "halves", "bead", "look"]) (sc := defScope sLawOuts) (by decide +kernel)) (fun _ _ _ _ _ => (pg_name (i := 10) sc.nd rfl (.inl rfl))) (fun _ _ _ _ _ => (pts_one (PW.pt (pw_and (pt_cmpR op_eq (pe_ix (ixK (rIxT K) ix_tup) (pv 10) pe_int (fun _ _ => rfl)) (pv 4) (nomark _)) (pw_and1 (pt_cmpR op_eq (pe_ix (ixK (rIxT K) ix_tup) (pv 10) pe_int (fun _ _ => rfl)) (pv 3) (nomark _))))))) (fun _ _ _ _ _ => (pv 10)))
  (pss_cons (ps_set (i := 7) sc.nd rfl (.inl rfl) (pe_op op_sub (pv 5) (pe_callB (cr_max rfl) (by rfl) m_max (by decide +kernel) (pa_cons (pe_op op_cat (pe_lst (pa_cons pe_int pa_nil)) (pe_lc (own := [("look", 10)]) (g := gName 10) (tt := tYes) (by rfl) sc.nd  (pi_list (pv 6)) (blkOk_by (own := [("look", 10)]) (N := ["home", "start", "reel", "spot", "when", "count", "here", "top", "halves", "bead", "look"]) (sc := defScope sLawOuts) (by decide +kernel)) (fun _ _ _ _ _ => (pg_name (i := 10) sc.nd rfl (.inl rfl))) (fun _ _ _ _ _ => pts_nil) (fun _ _ _ _ _ => (pe_ix (ixK (rIxT K) ix_tup) (pv 10) pe_int (fun _ _ => rfl))))) pa_nil))))
  (pss_cons (ps_setLc (i := 8) (own := [("look", 10)]) (g := gName 10) (tt := tYes) (by rfl) sc.nd rfl rfl (sw_true rfl rfl rfl (by decide +kernel)) (pi_list (pv 6)) (blkOk_by (own := [("look", 10)]) (N := ["home", "start", "reel", "spot", "when", "count", "here", "top", "halves", "bead", "look"]) (sc := defScope sLawOuts) (by decide +kernel)) (fun _ _ _ _ _ => (pg_name (i := 10) sc.nd rfl (.inl rfl))) (fun _ _ _ _ _ => pts_nil) (fun _ _ _ _ _ => (pe_op op_fdiv (pe_op op_add (pe_op op_sub (pv 5) (pe_ix (ixK (rIxT K) ix_tup) (pv 10) pe_int (fun _ _ => rfl))) (pe_op op_mod (pe_op op_sub (pv 5) (pe_ix (ixK (rIxT K) ix_tup) (pv 10) pe_int (fun _ _ => rfl))) pe_int)) pe_int)))
  (pss_one (ps_ret (pe_lst (pa_cons (pe_callB (cr_max rfl) (by rfl) m_max (by decide +kernel) (pa_cons (pe_op op_cat (pe_lst (pa_cons pe_int pa_nil)) (pv 8)) pa_nil)) (pa_cons (pe_op op_fdiv (pe_op op_sub (pv 7) (pe_op op_mod (pv 7) pe_int)) pe_int) pa_nil)))))))))), ?_⟩
  dsimp only [cxOf, L2.Cx.nox]
  refine fn_ds (fun t => [.d (houseD t.rooms t.ds), .d (intsD t.B), .d (tapeD t.bs t.ls), .d (.int t.r), .d (.int t.m), .un, .un, .un, .un, .un, .un]) h (fun i => rfl) fun t ν ok => ?_
  refine ds_seq (ds_if ?_)
  walk_at "de"
  refine ⟨fun e => ds_ret ?_, fun e => ds_next ?_⟩
  · refine Do.de (do_lst ?_)
    walk_at "de"
    have e' : t.m = 0 := by have := of_decide_eq_true e; omega
    refine ⟨szd rfl, ?_⟩
    show Sl.d _ = Sl.d _
    unfold leastOut mostOut
    rw [if_pos e', if_pos e']
    rfl
  have e' : t.m ≠ 0 := by have := of_decide_eq_false e; omega
  refine ds_seq (ds_set rfl (dI_e ?_))
  walk_at "de"
  refine ⟨_, atD_ints (by rw [ok.lB]; exact ok.hr), ?_⟩
  walk_at "de"
  rw [cutD_take, ← List.map_take]
  refine lcF beadD (t.bs.take t.m) (atDoor t.ds t.r) beadD (small_take ok.lb) rfl (fun b hb => ?_) ?_
  · walk_at "nrm"
    walk_at "de"
    obtain ⟨d, ed⟩ : ∃ d, t.ds[b.1]? = some d := ⟨_, List.getElem?_eq_getElem (ok.beads b (List.mem_of_mem_take hb))⟩
    refine ⟨_, atD_map ed, [d.1, d.2], .inr rfl, rfl, door_in ed t.r, fun _ => ?_⟩
    walk_at "de"
    exact ⟨rfl, rfl⟩
  rw [List.length_map]
  show Po.nx _ ν (_ : List Sl)
  have eh : t.B.getD t.r 0 + (((t.bs.take t.m).filter (atDoor t.ds t.r)).length : Int) = hadMet t.ds t.B t.bs t.r t.m := rfl
  rw [eh]
  generalize hc : hadMet t.ds t.B t.bs t.r t.m = c
  walk_at "nrm"
  refine ds_seq (ds_set rfl (Do.de (do_lck rfl ?_)))
  walk_at "de"
  refine lcF lookD t.ls (lookAt t.r t.m) lookD (small_of ok.ll (by decide)) rfl (fun b hb => ?_) ?_
  · walk_at "nrm"
    walk_at "de"
    refine ⟨fun e => ?_, fun e => ?_⟩
    · walk_at "de"
      refine ⟨rfl, by unfold lookAt; rw [e]; rfl, fun _ => ?_⟩
      walk_at "de"
      exact ⟨rfl, rfl⟩
    · refine ⟨rfl, by unfold lookAt; rw [e]; rfl, fun z => ?_⟩
      unfold lookAt at z; rw [e] at z; cases z
  have sl := looksAt_small (r := t.r) (m := t.m) ok.ll
  show Po.nx _ ν (_ : List Sl)
  have el : t.ls.filter (lookAt t.r t.m) = looksAt t.ls t.r t.m := rfl
  rw [el]
  walk_at "nrm"
  refine ds_seq (ds_set rfl (dI_e ?_))
  walk_at "de"
  refine dI_maxL (dL_o (do_catL ?_))
  walk_at "de"
  refine ⟨szd rfl, ?_⟩
  refine dL_o (do_lck rfl ?_)
  walk_at "de"
  refine lcM lookD (looksAt t.ls t.r t.m) (fun l => .int l.2.2.1) (small_of sl (by decide)) rfl (fun l hl => ?_) ?_
  · walk_at "nrm"
    walk_at "de"
    exact ⟨rfl, rfl⟩
  refine ⟨by rw [List.length_map]; show 1 + _ ≤ sizeLine; unfold sizeLine; omega, 0 :: (looksAt t.ls t.r t.m).map (fun l => l.2.2.1), by rw [List.map_cons, List.map_map]; rfl, by simp, fun m h1 h2 => ?_⟩
  have em := top0_is h1 h2
  subst em
  walk_at "de"
  walk_at "nrm"
  refine ds_seq (ds_set rfl (Do.de (do_lck rfl ?_)))
  walk_at "de"
  refine lcM lookD (looksAt t.ls t.r t.m) (fun l => .int ((c - l.2.2.2 + 1) / 2)) (small_of sl (by decide)) rfl (fun l hl => ?_) ?_
  · walk_at "nrm"
    walk_at "de"
    refine ⟨by decide, ?_⟩
    walk_at "de"
    refine ⟨⟨by decide, by decide⟩, rfl, ?_⟩
    rw [half_up]
  walk_at "nrm"
  refine ds_ret (Do.de (do_lst (da_cons (dI_e (dI_maxL (dL_o (do_catL ?_)))))))
  walk_at "de"
  refine ⟨szd rfl, ?_⟩
  walk_at "de"
  refine ⟨by rw [List.length_map]; show 1 + _ ≤ sizeLine; unfold sizeLine; omega, 0 :: (looksAt t.ls t.r t.m).map (fun l => (c - l.2.2.2 + 1) / 2), by rw [List.map_cons, List.map_map]; rfl, by simp, fun m h1 h2 => ?_⟩
  have em := top0_is h1 h2
  subst em
  walk_at "de"
  refine ⟨by decide, ?_⟩
  walk_at "de"
  refine ⟨⟨by decide, by decide⟩, ?_⟩
  walk_at "de"
  refine ⟨szd rfl, ?_⟩
  show Sl.d _ = Sl.d _
  rw [half_dn]
  unfold leastOut mostOut
  rw [if_neg e', if_neg e', hc]
  rfl
theorem ok_strL {f : Addr} {fd : FuncData} (F : Fun K "_law_are_stretches" "_law_are_stretches" sLawAreStretches f fd) (m_len : mg "len" = none) (m_sorted : mg "sorted" = none) (m_range : mg "range" = none) : FnG P w K mg base 1 f fd ["home", "reel", "rows"] (spStr K) := by
  have sc := scLawAreStretches
  refine fnG_of F scLawAreStretches (fun vs H Q E h => spD_len h fun i => rfl) (fun cdv A outer s H vs Q E hr hg h => ?_)
  refine ⟨_, (pss_cons (ps_set (i := 3) sc.nd rfl (.inr rfl) (pe_callB call_len_seq (by rfl) m_len PySem.boot_len (pa_cons (pe_ix ix_tup (pv 1) pe_int (fun _ _ => rfl)) pa_nil)))
  (pss_cons (ps_setLc (i := 4) (own := [("row", 5)]) (g := gName 5)  (by rfl) sc.nd rfl rfl (sw_true rfl rfl rfl (by decide +kernel)) (pi_list (pv 2)) (blkOk_by (own := [("row", 5)]) (N := ["home", "reel", "rows", "many", "bad", "row", "k"]) (sc := defScope sLawAreStretches) (by decide +kernel)) (fun _ _ _ _ _ => (pg_name (i := 5) sc.nd rfl (.inl rfl))) (fun _ _ _ _ _ => (pts_one (PW.pt (pw_or (pt_not (pt_chain op_le op_lt pe_int (pe_ix (ixK (rIxT K) ix_tup) (pv 5) pe_int (fun _ _ => rfl)) (pe_ix (ixK (rIxT K) ix_tup) (pv 0) pe_int (fun _ _ => rfl)))) (pw_or1 (pt_not (pt_chain3 op_le op_le op_le pe_int (pe_ix (ixK (rIxT K) ix_tup) (pv 5) pe_int (fun _ _ => rfl)) (pe_ix (ixK (rIxT K) ix_tup) (pv 5) pe_int (fun _ _ => rfl)) (pv 3)))))))) (fun _ _ _ _ _ => (pv 5)))
  (pss_cons (ps_if (PW.pt (pw_or (pt_cmpR (op_neD hr.units) (pv 4) (pe_lst pa_nil) (nomark _)) (pw_or1 (pt_cmpR (op_neD hr.units) (pv 2) (pe_callB (cr_sortedD hr.units) (by rfl) m_sorted (by decide +kernel) (pa_cons (pv 2) pa_nil)) (nomark _)))))
    (pss_one (ps_ret pe_bl))
    pss_nil)
  (pss_one (ps_ret (pe_cmpR (op_eqD hr.units) (pe_lc (own := [("k", 6)]) (g := gName 6)  (by rfl) sc.nd  (pi_range2 (by rfl) m_range (pa_cons pe_int (pa_cons (pe_callB call_len_seq (by rfl) m_len PySem.boot_len (pa_cons (pv 2) pa_nil)) pa_nil))) (blkOk_by (own := [("k", 6)]) (N := ["home", "reel", "rows", "many", "bad", "row", "k"]) (sc := defScope sLawAreStretches) (by decide +kernel)) (fun _ _ _ _ _ => (pg_name (i := 6) sc.nd rfl (.inl rfl))) (fun _ _ _ _ _ => (pts_one (PW.pt (pw_and (pt_cmpR op_eq (pe_ix (ixK (rIxT K) ix_tup) (pe_ix (ixK (rIxL K) ix_list) (pv 2) (pv 6) (fun _ _ => rfl)) pe_int (fun _ _ => rfl)) (pe_ix (ixK (rIxT K) ix_tup) (pe_ix (ixK (rIxL K) ix_list) (pv 2) (pe_op op_sub (pv 6) pe_int) (fun _ _ => rfl)) pe_int (fun _ _ => rfl)) (nomark _)) (pw_and1 (pt_cmpR op_lt (pe_op op_sub (pe_ix (ixK (rIxT K) ix_tup) (pe_ix (ixK (rIxL K) ix_list) (pv 2) (pv 6) (fun _ _ => rfl)) pe_int (fun _ _ => rfl)) (pe_ix (ixK (rIxT K) ix_tup) (pe_ix (ixK (rIxL K) ix_list) (pv 2) (pe_op op_sub (pv 6) pe_int) (fun _ _ => rfl)) pe_int (fun _ _ => rfl))) pe_int (nomark _))))))) (fun _ _ _ _ _ => (pv 6))) (pe_lst pa_nil) (nomark _))))))), ?_⟩
  try dsimp only [cxOf, L2.Cx.nox]
  refine fn_ds (fun i => [.d (houseD i.t.rooms i.t.ds), .d (tapeD i.t.bs i.t.ls), .d (.list (i.rows.map srD)), .un, .un, .un, .un]) h (fun i => rfl) fun i ν hp => ?_
  obtain ⟨ok, hs⟩ := hp
  have hlen := hs.len
  refine ds_seq (ds_set rfl (dI_e ?_))
  walk_at "de"
  rw [List.length_map]
  walk_at "nrm"
  refine ds_seq (ds_set rfl (Do.de (do_lck rfl ?_)))
  walk_at "de"
  refine lcF srD i.rows (fun _ => false) srD (small_of hlen (by decide)) rfl (fun sr hm => ?_) ?_
  · obtain ⟨s1, s2, s3, s4⟩ := hs.ok sr hm
    dsimp only [srD]
    walk_at "nrm"
    refine dg_name rfl (by simp) (dt_or (dt_not ?_))
    walk_at "de"
    refine ⟨fun e => ?_, fun e => by simp at e <;> omega⟩
    walk_at "de"
    refine ⟨fun e2 => by simp at e2 <;> omega, fun e2 => dt_not (dt_tTest (dB_chain3 ?_))⟩
    walk_at "de"
    refine ⟨fun e3 => ?_, fun e3 => by simp at e3 <;> omega⟩
    walk_at "de"
    refine ⟨fun e4 => ?_, fun e4 => by simp at e4 <;> omega⟩
    walk_at "de"
    have : decide ((sr.2.2 : Int) ≤ (i.t.bs.length : Int)) = true := decide_eq_true (by omega)
    refine ⟨rfl, by rw [this]; rfl, fun z => by cases z⟩
  rw [show i.rows.filter (fun _ => false) = [] from List.filter_eq_nil_iff.mpr (fun _ _ => by simp)]
  walk_at "nrm"
  refine ds_seq (ds_if (dt_or (dt_tTest (dB_neD (de_var rfl (Do.de (do_lst (da_nil ⟨szd rfl, rfl, rfl, ?_⟩))))))))
  refine ⟨(fun z => by cases z), fun _ => dt_tTest (dB_neD (de_var rfl (Do.de (do_sortedD (dL_var rfl ⟨alike_rows _, sortable_rows _, sorted_rows hs.rise, deep_rows _, (shp_rows i.rows).ok (by decide), (shp_rows i.rows).ok (by decide), ?_⟩)))))⟩
  rw [show PyData.eqv (.list (i.rows.map srD)) (.list (i.rows.map srD)) = true from SeqAt.eqv_refl _ (shp_rows i.rows).1]
  refine ⟨(fun z => by cases z), fun _ => ds_next ?_⟩
  refine ds_ret (dB_e (dB_eqD (Do.de (do_lck rfl (di_rng2 ?_)))))
  walk_at "de"
  rw [List.length_map]
  refine ⟨1, _, rfl, ⟨by decide, by decide, by omega, by omega⟩, ?_⟩
  refine lcF (fun (k : Nat) => PyData.int (1 + (k : Int))) (List.range (((i.rows.length : Nat) : Int) - 1).toNat) (fun _ => false) (fun (k : Nat) => PyData.int (1 + (k : Int))) (szL (by rw [List.length_range]; omega)) rfl (fun k hk => ?_) ?_
  · have hk := List.mem_range.mp hk
    have h1 : k + 1 < i.rows.length := by omega
    have ea : (i.rows)[k]? = some (i.rows[k]'(by omega)) := List.getElem?_eq_getElem (by omega)
    have eb : (i.rows)[k + 1]? = some (i.rows[k + 1]'h1) := List.getElem?_eq_getElem h1
    have hab := List.pairwise_iff_getElem.mp hs.rise k (k + 1) (by omega) h1 (by omega)
    generalize i.rows[k]'(by omega) = a at ea hab
    generalize i.rows[k + 1]'h1 = b at eb hab
    have ea' : atD (i.rows.map srD) (1 + (k : Int) - 1) = some (srD a) := by
      rw [show 1 + (k : Int) - 1 = (k : Int) by omega]; exact atD_map ea
    have eb' : atD (i.rows.map srD) (1 + (k : Int)) = some (srD b) := by
      rw [show 1 + (k : Int) = ((k + 1 : Nat) : Int) by omega]; exact atD_map eb
    dsimp only [srD] at ea' eb'
    walk_at "nrm"
    refine dg_name rfl (by simp) (dt_and ?_)
    walk_at "de"
    refine ⟨_, eb', ?_⟩
    walk_at "de"
    refine ⟨_, ea', ?_⟩
    walk_at "de"
    refine ⟨fun e => by simp at e <;> omega, fun e => ⟨rfl, rfl, fun z => by cases z⟩⟩
  rw [show (List.range (((i.rows.length : Nat) : Int) - 1).toNat).filter (fun _ => false) = [] from List.filter_eq_nil_iff.mpr (fun _ _ => by simp)]
  exact Do.de (do_lst (da_nil ⟨szd rfl, rfl, rfl, rfl⟩))
theorem ok_lookedL {f : Addr} {fd : FuncData} (F : Fun K "_law_looked_wrong" "_law_looked_wrong" sLawLookedWrong f fd) (cal_law_outs : Cg P w K mg base 1 "_law_outs" (spOuts K)) (m_len : mg "len" = none) : FnG P w K mg base 2 f fd ["home", "start", "reel", "when", "spot"] (spLookR K) := by
  have sc := scLawLookedWrong
  refine fnG_of F scLawLookedWrong (fun vs H Q E h => spD_len h fun i => rfl) (fun cdv A outer s H vs Q E hr hg h => ?_)
  refine ⟨_, (pss_cons (ps_if (PW.pt (pw_or (pt_not (pt_chain op_le op_le pe_int (pv 3) (pe_callB call_len_seq (by rfl) m_len PySem.boot_len (pa_cons (pe_ix ix_tup (pv 2) pe_int (fun _ _ => rfl)) pa_nil)))) (pw_or1 (pt_not (pt_chain op_le op_lt pe_int (pv 4) (pe_ix ix_tup (pv 0) pe_int (fun _ _ => rfl)))))))
    (pss_one (ps_ret pe_bl))
    pss_nil)
  (pss_cons (ps_setLc (i := 5) (own := [("look", 7)]) (g := gName 7)  (by rfl) sc.nd rfl rfl (sw_true rfl rfl rfl (by decide +kernel)) (pi_list (pe_ix ix_tup (pv 2) pe_int (fun _ _ => rfl))) (blkOk_by (own := [("look", 7)]) (N := ["home", "start", "reel", "when", "spot", "wrong", "outs", "look"]) (sc := defScope sLawLookedWrong) (by decide +kernel)) (fun _ _ _ _ _ => (pg_name (i := 7) sc.nd rfl (.inl rfl))) (fun _ _ _ _ _ => (pts_one (PW.pt (pw_and (pt_cmpR (opK (rEqD K) (op_eqD hr.units)) (pe_slice (slK (rSlT K) sl_tup) (pv 7) po_none (po_some pe_int)) (pe_tup (pa_cons pe_int (pa_cons (pv 4) pa_nil))) (nomark _)) (pw_and1 (pt_not (pt_chain op_le op_le (pe_ix (ixK (rIxT K) ix_tup) (pv 7) pe_int (fun _ _ => rfl)) (pe_ix (ixK (rIxL K) ix_list) (pv 1) (pv 4) (fun _ _ => rfl)) (pe_ix (ixK (rIxT K) ix_tup) (pv 7) pe_int (fun _ _ => rfl))))))))) (fun _ _ _ _ _ => (pv 7)))
  (pss_cons (ps_set (i := 6) sc.nd rfl (.inl rfl) (pe_g cal_law_outs hg hr (by first | decide | exact Nat.le_refl _ | omega) (by rfl) (pa_cons (pv 0) (pa_cons (pv 1) (pa_cons (pv 2) (pa_cons (pv 4) (pa_cons (pv 3) pa_nil)))))))
  (pss_one (ps_ret (pe_or (pe_cmpR op_gt (pe_ix ix_list (pv 6) pe_int (fun _ _ => rfl)) (pe_ix ix_list (pv 6) pe_int (fun _ _ => rfl)) (nomark _)) (pe_one (pe_and (pe_cmpR op_eq (pv 3) pe_int (nomark _)) (pe_one (pe_cmpR (op_neD hr.units) (pv 5) (pe_lst pa_nil) (nomark _))))))))))), ?_⟩
  dsimp only [cxOf, L2.Cx.nox]
  refine fn_ds (fun i => [.d (houseD i.t.rooms i.t.ds), .d (intsD i.t.B), .d (tapeD i.t.bs i.t.ls), .d (.int i.m), .d (.int i.r), .un, .un, .un]) h (fun i => rfl) fun i ν hp => ?_
  obtain ⟨ok, hm, hr'⟩ := hp
  refine ds_seq (ds_if (dt_or (dt_not ?_)))
  walk_at "de"
  refine ⟨fun e => ?_, fun e => by simp at e <;> omega⟩
  walk_at "de"
  rw [List.length_map]
  refine ⟨fun e2 => by simp at e2 <;> omega, fun e2 => dt_not ?_⟩
  walk_at "de"
  refine ⟨fun e3 => ?_, fun e3 => by simp at e3 <;> omega⟩
  walk_at "de"
  refine ⟨fun e4 => by simp at e4 <;> omega, fun e4 => ds_next ?_⟩
  refine ds_seq (ds_set rfl (Do.de (do_lck rfl ?_)))
  walk_at "de"
  refine lcF lookD i.t.ls (wrongOf i.t.B i.r) lookD (small_of ok.ll (by decide)) rfl (fun l hl => ?_) ?_
  · have ert := atD_ints (ns := i.t.B) (i := i.r) (by rw [ok.lB]; exact hr')
    walk_at "nrm"
    refine dg_name rfl (by simp) (dt_and (dt_tTest (dB_eqD (de_slTT ?_))))
    walk_at "de"
    refine ⟨by show ¬ (HT.sIx 4 0 none = 0 ∧ HT.sIx 4 4 (some 2) = 4); decide, ?_⟩
    walk_at "de"
    refine ⟨szd rfl, rfl, rfl, ?_⟩
    rw [show PyData.eqv (.tuple (cutD [PyData.int l.1, .int l.2.1, .int l.2.2.1, .int l.2.2.2] none (some 2))) (.tuple [toD (V.int 0), .int i.r]) = (decide (l.1 = 0) && decide (l.2.1 = (i.r : Int))) from eqv_two _ _ _ _]
    refine ⟨fun e => dt_not ?_, fun e => ⟨rfl, by unfold wrongOf; rw [e, Bool.false_and], fun z => by unfold wrongOf at z; rw [e, Bool.false_and] at z; cases z⟩⟩
    walk_at "de"
    refine ⟨_, ert, ?_⟩
    refine ⟨fun e2 => ?_, fun e2 => ⟨rfl, by unfold wrongOf; rw [e, e2, Bool.true_and, Bool.false_and], fun _ => ?_⟩⟩
    · walk_at "de"
      refine ⟨rfl, by unfold wrongOf; rw [e, e2, Bool.true_and, Bool.true_and], fun _ => ?_⟩
      walk_at "de"
      exact ⟨rfl, rfl⟩
    · walk_at "de"
      exact ⟨rfl, rfl⟩
  walk_at "nrm"
  refine ds_seq (ds_set rfl (de_call0 ?_))
  walk_at "de"
  refine ⟨⟨i.t.rooms, i.t.ds, i.t.B, i.t.bs, i.t.ls, i.r, i.m⟩, rfl, ok.tp hr', fun n s es => ⟨_, es, ?_⟩⟩
  walk_at "nrm"
  have fin : ∀ {b : Bool}, lookedB i = b → Sl.d (.bool b) = Sl.d (.bool (lookedB i)) := fun h => by rw [h]
  refine ds_ret (dB_e (dB_or ?_))
  walk_at "de"
  by_cases em : i.m = 0
  · have z1 : leastOut i.t.ds i.t.B i.t.bs i.t.ls i.r i.m = 0 := by unfold leastOut; rw [if_pos em]
    have z2 : mostOut i.t.ds i.t.B i.t.bs i.t.ls i.r i.m = 0 := by unfold mostOut; rw [if_pos em]
    refine ⟨fun e => by have e := of_decide_eq_true e; omega, fun e => dB_and ?_⟩
    walk_at "de"
    refine ⟨fun e2 => dB_neD (de_var rfl (Do.de (do_lst (da_nil ⟨szd rfl, (shp_mapL (n := 1) _ shp_lk).ok (by decide), rfl, ?_⟩)))), fun e2 => by simp at e2; omega⟩
    rw [eqv_nilL, wrong_eq]
    refine fin ?_
    unfold lookedB
    rw [if_pos em]
  · refine ⟨fun e => fin ?_, fun e => dB_and ?_⟩
    · unfold lookedB
      rw [if_neg em]
      exact e
    · walk_at "de"
      refine ⟨fun e2 => by simp at e2; omega, fun e2 => fin ?_⟩
      unfold lookedB
      rw [if_neg em]
      exact e
end
end Bd
namespace Bd
open PySem PySem.Spec PyProof.Rows L2 HT
local macro_rules | `(tactic| walk_at "de1") => `(tactic| (with_reducible first
  | refine dI_var rfl ?_ | refine dI_c ?_ | refine dI_op0 ?_ | refine dI_op ?_ | refine dI_un ?_ | refine dI_ixO rfl ?_ | refine dI_ixT ?_ | refine dI_ixL ?_ | refine dI_if ?_ | refine dI_lenO rfl ?_ | refine dI_lenL ?_ | refine dI_abs ?_ | refine dI_two ?_ | refine dI_intB ?_
  | refine dB_var rfl ?_ | refine dB_c ?_ | refine dB_op0 ?_ | refine dB_eqI ?_ | refine dB_neI ?_ | refine dB_inI ?_ | refine dB_not ?_ | refine dB_and ?_ | refine dB_or ?_ | refine dB_chain ?_ | refine dB_eqD ?_ | refine dB_neD ?_ | refine dB_isi ?_
  | refine dL_var rfl ?_ | refine dL_ixO rfl ?_ | refine dL_ixT ?_ | refine dL_ixL ?_ | refine dL_o ?_
  | refine dT_var rfl ?_ | refine dT_ixL ?_ | refine dT_ixT ?_ | refine dT_tup ?_ | refine dT_slT ?_ | refine dT_catT ?_
  | refine de_var rfl ?_ | refine dX_ixO rfl ?_ | refine dX_ixT ?_ | refine dX_ixL ?_ | refine de_tup ?_ | refine de_c rfl ?_ | refine de_if ?_ | refine Do.de (do_lst ?_) | refine de_catTT ?_ | refine de_slTT ?_
  | refine dI_e (dI_op0 ?_) | refine dI_e (dI_op ?_) | refine dI_e (dI_un ?_) | refine dI_e (dI_lenO rfl ?_) | refine dI_e (dI_lenL ?_) | refine dI_e (dI_abs ?_) | refine dI_e (dI_two ?_) | refine dI_e (dI_intB ?_)
  | refine dB_e (dB_op0 ?_) | refine dB_e (dB_eqI ?_) | refine dB_e (dB_neI ?_) | refine dB_e (dB_inI ?_) | refine dB_e (dB_not ?_) | refine dB_e (dB_and ?_) | refine dB_e (dB_or ?_) | refine dB_e (dB_chain ?_) | refine dB_e (dB_eqD ?_) | refine dB_e (dB_neD ?_)
  | refine dt_tB ?_ | refine dt_tTest ?_ | refine dt_not ?_ | refine dt_and ?_ | refine dt_or ?_ | refine dt_yes ?_
  | refine da_nil ?_ | refine da_cons ?_ | refine dp_no ?_ | refine dp_partI ?_
  | refine di_rngI ?_ | refine di_listL ?_ | refine di_zipL ?_ | refine di_enumL ?_
  | refine do_lck rfl ?_ | refine do_lst ?_ | refine do_catL ?_ | refine do_slLL ?_ | refine do_revL ?_
  | refine dg_nm rfl ?_ | refine dg_name rfl (by simp) ?_ | refine dg_tup rfl ?_ | refine dgs_cons ?_ | refine dgs_nil ?_))
local macro_rules | `(tactic| walk_at "de") => `(tactic| (repeat (first | walk_at "de1" | (refine ⟨_, rfl, ?_⟩))))
local macro_rules | `(tactic| walk_at "nrm") => `(tactic| (try dsimp only [List.set, toD, wipeR, List.map, pairD, beadD, lookD]))

abbrev sLawShown : Stmt := topS 30
theorem scLawShown : FnScope ["home", "start", "reel", "sheet", "bound", "loose", "need", "top", "k", "bead", "rooms", "over", "hit", "spot", "begun", "last", "ahead", "behind", "row"] ["home", "start", "reel", "sheet"] (defScope sLawShown) := ⟨rfl, rfl, rfl, by decide +kernel, rfl, by decide +kernel, by decide +kernel⟩
theorem eqv_nats : ∀ a b : List Nat, PyData.eqvAll (a.map fun (r : Nat) => PyData.int (r : Int)) (b.map fun (r : Nat) => PyData.int (r : Int)) = decide (a = b)
  | [], [] => rfl
  | [], b :: bs => by simp [PyData.eqvAll]
  | a :: as, [] => by simp [PyData.eqvAll]
  | a :: as, b :: bs => by
    have ih := eqv_nats as bs
    show (((a : Int) == (b : Int)) && PyData.eqvAll (as.map fun (r : Nat) => PyData.int (r : Int)) (bs.map fun (r : Nat) => PyData.int (r : Int))) = _
    rw [ih]
    by_cases h1 : a = b
    · subst h1
      by_cases h2 : as = bs <;> simp [h2]
    · have : ((a : Int) == (b : Int)) = false := by simpa using fun z => h1 (by omega)
      rw [this, Bool.false_and, decide_eq_false]
      intro z
      injection z with z1 z2
      exact h1 z1
theorem eqv_natsL (a b : List Nat) : PyData.eqv (.list (a.map fun (r : Nat) => PyData.int (r : Int))) (.list (b.map fun (r : Nat) => PyData.int (r : Int))) = decide (a = b) := eqv_nats a b
theorem shp_nats (a : List Nat) : Shp 1 (.list (a.map fun (r : Nat) => PyData.int (r : Int))) := shp_mapL a fun r => shp_int _
def overB (k : Nat) (s : Sr) : Bool := decide ((s.2.1 : Int) ≤ (k : Int) + 1) && decide ((k : Int) + 1 ≤ s.2.2)
theorem over_hit (rs : List Sr) (k r : Nat) : decide ((r : Int) ∈ (rs.filter (overB k)).map fun s => (s.1 : Int)) = hitB rs k r := by
  rw [Bool.eq_iff_iff, decide_eq_true_eq, List.mem_map]
  unfold hitB
  rw [List.any_eq_true]
  constructor
  · rintro ⟨s, hs, e⟩
    obtain ⟨h1, h2⟩ := List.mem_filter.mp hs
    refine ⟨s, h1, ?_⟩
    unfold inStr
    rw [decide_eq_true e.symm, Bool.true_and]
    exact h2
  · rintro ⟨s, hs, e⟩
    unfold inStr at e
    rw [Bool.and_eq_true, decide_eq_true_eq] at e
    exact ⟨s, List.mem_filter.mpr ⟨hs, e.2⟩, e.1.symm⟩
theorem hit_all (L : List Nat) (p : Nat → Bool) : decide (L.filter p = L) = (L.map p).all id := by
  rw [Bool.eq_iff_iff, decide_eq_true_eq, List.filter_eq_self, List.all_map, List.all_eq_true]
  rfl
theorem hit_any (L : List Nat) (p : Nat → Bool) : (!decide (((L.filter p).map fun (r : Nat) => PyData.int (r : Int)) = [])) = (L.map p).any id := by
  rw [Bool.eq_iff_iff, Bool.not_eq_true', decide_eq_false_iff_not, List.map_eq_nil_iff, List.filter_eq_nil_iff, List.any_map, List.any_eq_true]
  constructor
  · intro h
    apply Classical.byContradiction
    intro h2
    exact h fun a ha hp => h2 ⟨a, ha, hp⟩
  · rintro ⟨a, ha, hp⟩ h
    exact h a ha hp
theorem count_step {α : Type} {W : List α} {i : Nat} {x : α} (p : α → Bool) (h : W[i]? = some x) : (((W.take (i + 1)).filter p).length : Int) = (((W.take i).filter p).length : Int) + (if p x = true then 1 else 0) := by
  rw [take_snoc h, List.filter_append, List.length_append]
  cases c : p x with
  | true => rw [List.filter_cons_of_pos c, if_pos rfl]; simp
  | false => rw [List.filter_cons_of_neg (by rw [c]; decide), if_neg (by decide)]; simp
theorem sum_step {α : Type} {W : List α} {i : Nat} {x : α} (f : α → Int) (h : W[i]? = some x) : ((W.take (i + 1)).map f).sum = ((W.take i).map f).sum + f x := by
  rw [take_snoc h, List.map_append, List.sum_append]
  simp
theorem within_at {ds : List (Nat × Nat)} {bs : List Bead} {rs : List Sr} {k : Nat} {b : Bead} (h : bs[k]? = some b) : (withinL ds bs rs)[k]? = some ((leftRooms ds b).map (hitB rs k)) := by
  unfold withinL
  rw [List.getElem?_map, List.getElem?_zipIdx, h]
  simp
section
variable {P : Program} {w : World} {K : PySem.W.Frag} {mg : Str → Option Value} {base : Heap}
theorem ok_shown {f : Addr} {fd : FuncData} (F : Fun K "_law_shown" "_law_shown" sLawShown f fd) (cal_law_looked_wrong : Cg P w K mg base 2 "_law_looked_wrong" (spLookR K)) (cal_law_are_stretches : Cg P w K mg base 1 "_law_are_stretches" (spStr K)) (cal_law_outs : Cg P w K mg base 1 "_law_outs" (spOuts K))
    (m_enumerate : mg "enumerate" = none) (m_list : mg "list" = none) (m_int : mg "int" = none) : FnG P w K mg base 3 f fd ["home", "start", "reel", "sheet"] (spPaper K) := by
  have sc := scLawShown
  refine fnG_of F scLawShown (fun vs H Q E h => spD_len h fun i => rfl) (fun cdv A outer s H vs Q E hr hg h => ?_)
  refine ⟨_, (pss_cons (ps_if (pt_cmpR op_eq (pe_ix ix_tup (pv 3) pe_int (fun _ _ => rfl)) pe_str (nomark _))
    (pss_one (ps_ret (pe_g cal_law_looked_wrong hg hr (by first | decide | exact Nat.le_refl _ | omega) (by rfl) (pa_cons (pv 0) (pa_cons (pv 1) (pa_cons (pv 2) (pa_cons (pe_ix ix_tup (pv 3) pe_int (fun _ _ => rfl)) (pa_cons (pe_ix ix_tup (pv 3) pe_int (fun _ _ => rfl)) pa_nil))))))))
    pss_nil)
  (pss_cons (ps_if (pt_not (pt_val (pe_g cal_law_are_stretches hg hr (by first | decide | exact Nat.le_refl _ | omega) (by rfl) (pa_cons (pv 0) (pa_cons (pv 2) (pa_cons (pe_ix ix_tup (pv 3) pe_int (fun _ _ => rfl)) pa_nil))))))
    (pss_one (ps_ret pe_bl))
    pss_nil)
  (pss_cons (ps_asg (pe_tup (pa_cons pe_int (pa_cons pe_int (pa_cons pe_int (pa_cons pe_int pa_nil))))) (pg_tup (by rfl) (pgs_cons (pg_name (i := 4) sc.nd rfl (.inl rfl)) (pgs_cons (pg_name (i := 5) sc.nd rfl (.inl rfl)) (pgs_cons (pg_name (i := 6) sc.nd rfl (.inl rfl)) (pgs_cons (pg_name (i := 7) sc.nd rfl (.inl rfl)) pgs_nil))))))
  (pss_cons (ps_for PassesOwn.never rfl (pi_enum (by rfl) m_enumerate (pa_cons (pe_ix ix_tup (pv 2) pe_int (fun _ _ => rfl)) pa_nil)) (pg_tup (by rfl) (pgs_cons (pg_name (i := 8) sc.nd rfl (.inr rfl)) (pgs_cons (pg_name (i := 9) sc.nd rfl (.inl rfl)) pgs_nil)))
    (pss_cons (ps_set (i := 10) sc.nd rfl (.inl rfl) (pe_ifExp (pt_cmpR op_eq (pe_ix ix_tup (pv 9) pe_int (fun _ _ => rfl)) (pe_un un_neg pe_int) (nomark _)) (pe_callTy call_list_of (by rfl) m_list (by decide +kernel) (pa_cons (pe_ix ix_list (pe_ix ix_tup (pv 0) pe_int (fun _ _ => rfl)) (pe_ix ix_tup (pv 9) pe_int (fun _ _ => rfl)) (fun _ _ => rfl)) pa_nil)) (pe_lst (pa_cons (pe_ix ix_tup (pe_ix ix_list (pe_ix ix_tup (pv 0) pe_int (fun _ _ => rfl)) (pe_ix ix_tup (pv 9) pe_int (fun _ _ => rfl)) (fun _ _ => rfl)) (pe_ix ix_tup (pv 9) pe_int (fun _ _ => rfl)) (fun _ _ => rfl)) pa_nil))))
  (pss_cons (ps_set (i := 11) sc.nd rfl (.inr rfl) (pe_lc (own := [("row", 18)]) (g := gName 18)  (by rfl) sc.nd  (pi_list (pe_ix ix_tup (pv 3) pe_int (fun _ _ => rfl))) (blkOk_by (own := [("row", 18)]) (N := ["home", "start", "reel", "sheet", "bound", "loose", "need", "top", "k", "bead", "rooms", "over", "hit", "spot", "begun", "last", "ahead", "behind", "row"]) (sc := defScope sLawShown) (by decide +kernel)) (fun _ _ _ _ _ => (pg_name (i := 18) sc.nd rfl (.inl rfl))) (fun _ _ _ _ _ => (pts_one (pt_chain op_le op_le (pe_ix (ixK (rIxT K) ix_tup) (pv 18) pe_int (fun _ _ => rfl)) (pe_op op_add (pv 8) pe_int) (pe_ix (ixK (rIxT K) ix_tup) (pv 18) pe_int (fun _ _ => rfl))))) (fun _ _ _ _ _ => (pe_ix (ixK (rIxT K) ix_tup) (pv 18) pe_int (fun _ _ => rfl)))))
  (pss_cons (ps_setLc (i := 12) (own := [("spot", 13)]) (g := gName 13)  (by rfl) sc.nd rfl rfl (sw_true rfl rfl rfl (by decide +kernel)) (pi_list (pv 10)) (blkOk_by (own := [("spot", 13)]) (N := ["home", "start", "reel", "sheet", "bound", "loose", "need", "top", "k", "bead", "rooms", "over", "hit", "spot", "begun", "last", "ahead", "behind", "row"]) (sc := defScope sLawShown) (by decide +kernel)) (fun _ _ _ _ _ => (pg_name (i := 13) sc.nd rfl (.inl rfl))) (fun _ _ _ _ _ => (pts_one (pt_cmpR (opK (rIn K false) op_in_seq) (pv 13) (pv 11) rfl))) (fun _ _ _ _ _ => (pv 13)))
  (pss_cons (ps_set (i := 4) sc.nd rfl (.inl rfl) (pe_op op_add (pv 4) (pe_callTy call_int1 (by rfl) m_int (by decide +kernel) (pa_cons (pe_cmpR (op_eqD hr.units) (pv 12) (pv 10) (nomark _)) pa_nil))))
  (pss_one (ps_set (i := 5) sc.nd rfl (.inl rfl) (pe_op op_add (pv 5) (pe_callTy call_int1 (by rfl) m_int (by decide +kernel) (pa_cons (pe_cmpR (op_neD hr.units) (pv 12) (pe_lst pa_nil) (nomark _)) pa_nil))))))))))
  (pss_cons (ps_for PassesOwn.never rfl (pi_list (pe_ix ix_tup (pv 3) pe_int (fun _ _ => rfl))) (pg_tup (by rfl) (pgs_cons (pg_name (i := 13) sc.nd rfl (.inl rfl)) (pgs_cons (pg_name (i := 14) sc.nd rfl (.inl rfl)) (pgs_cons (pg_name (i := 15) sc.nd rfl (.inl rfl)) pgs_nil))))
    (pss_cons (ps_par (i := 16) (j := 17) (by rfl) sc.nd rfl rfl (by decide) rfl rfl (pa_cons (pe_g cal_law_outs hg hr (by first | decide | exact Nat.le_refl _ | omega) (by rfl) (pa_cons (pv 0) (pa_cons (pv 1) (pa_cons (pv 2) (pa_cons (pv 13) (pa_cons (pe_op op_sub (pv 14) pe_int) pa_nil)))))) (pa_cons (pe_g cal_law_outs hg hr (by first | decide | exact Nat.le_refl _ | omega) (by rfl) (pa_cons (pv 0) (pa_cons (pv 1) (pa_cons (pv 2) (pa_cons (pv 13) (pa_cons (pv 15) pa_nil)))))) pa_nil)) (by rfl))
  (pss_cons (ps_set (i := 7) sc.nd rfl (.inl rfl) (pe_op op_sub (pe_op op_add (pv 7) (pe_ix ix_list (pv 17) pe_int (fun _ _ => rfl))) (pe_ix ix_list (pv 16) pe_int (fun _ _ => rfl))))
  (pss_one (ps_set (i := 6) sc.nd rfl (.inl rfl) (pe_op op_sub (pe_op op_add (pv 6) (pe_ix ix_list (pv 17) pe_int (fun _ _ => rfl))) (pe_ix ix_list (pv 16) pe_int (fun _ _ => rfl))))))))
  (pss_one (ps_ret (pe_ifExp (pt_cmpR op_eq (pe_ix ix_tup (pv 3) pe_int (fun _ _ => rfl)) pe_str (nomark _)) (pe_cmpR op_gt (pv 4) (pv 7) (nomark _)) (pe_cmpR op_lt (pv 5) (pv 6) (nomark _)))))))))), ?_⟩
  dsimp only [cxOf, L2.Cx.nox]
  refine fn_ds (fun i => [.d (houseD i.t.rooms i.t.ds), .d (intsD i.t.B), .d (tapeD i.t.bs i.t.ls), .d (sheetD i.s), .un, .un, .un, .un, .un, .un, .un, .un, .un, .un, .un, .un, .un, .un, .un]) h (fun i => rfl) fun i ν hp => ?_
  obtain ⟨t, sh⟩ := i
  obtain ⟨ok, hs⟩ := hp
  dsimp only at ok hs ⊢
  cases sh with
  | look m r =>
    dsimp only at hs
    dsimp only [sheetD]
    refine ds_seq (ds_if (dt_tTest (dB_eqS ?_)))
    walk_at "de"
    refine ⟨_, _, rfl, rfl, fun _ => ds_ret (de_call0 ?_), fun e => absurd e (by decide +kernel)⟩
    walk_at "de"
    refine ⟨⟨t, r, m⟩, rfl, ⟨ok, hs.1, hs.2⟩, fun n s hs => ⟨_, hs, rfl⟩⟩
  | rows b rs =>
    dsimp only at hs
    have kne : decide (kindW b = "look") = false := by cases b <;> decide +kernel
    generalize hsh : sheetD (.rows b rs) = sd
    have esd : sd = .tuple [.str (kindW b), .list (rs.map srD)] := hsh.symm
    subst esd
    have hlen := hs.len
    refine ds_seq (ds_if (dt_tTest (dB_eqS ?_)))
    walk_at "de"
    refine ⟨_, _, rfl, rfl, ?_⟩
    refine ⟨(fun e => by rw [kne] at e; cases e), fun _ => ds_next ?_⟩
    refine ds_seq (ds_if (dt_not (dt_tB (dB_call0 ?_))))
    walk_at "de"
    refine ⟨⟨t, rs⟩, rfl, ⟨ok, hs⟩, fun n s es => ⟨_, es, (fun z => by cases z), fun _ => ds_next ?_⟩⟩
    refine ds_seq (ds_asg ?_)
    walk_at "de"
    refine ⟨szd rfl, ?_⟩
    walk_at "de"
    walk_at "nrm"
    -- the beads
    generalize hW : withinL t.ds t.bs rs = W
    have hWl : W.length = t.bs.length := by rw [← hW]; unfold withinL; rw [List.length_map, List.length_zipIdx]
    refine ds_seq (ds_fork ?_)
    walk_at "de"
    rw [enumD_map]
    refine forW [8, 9, 10, 11, 12, 13] (fun p : Bead × Nat => .tuple [.int (p.2 : Int), beadD p.1]) t.bs.zipIdx rfl 0 (fun i r => r = [.d (houseD t.rooms t.ds), .d (intsD t.B), .d (tapeD t.bs t.ls), .d (.tuple [.str (kindW b), .list (rs.map srD)]), .d (.int (((W.take i).filter fun x => x.all id).length : Int)), .d (.int (((W.take i).filter fun x => x.any id).length : Int)), .d (.int 0), .d (.int 0), .un, .un, .un, .un, .un, .un, .un, .un, .un, .un, .un]) rfl rfl (fun i p ν1 r0 hp hν hI => ?_) (fun ν2 ρ' hν hv hI => ?_)
    · subst hI
      obtain ⟨bd, k⟩ := p
      obtain ⟨eb, ek⟩ := zipIdx_at hp
      dsimp only at eb ek
      subst ek
      have hx : W[k]? = some ((leftRooms t.ds bd).map (hitB rs k)) := by rw [← hW]; exact within_at eb
      obtain ⟨q1, q2, q3⟩ := ok.beads bd (List.mem_of_getElem? eb)
      obtain ⟨d, ed⟩ : ∃ d, t.ds[bd.1]? = some d := ⟨_, List.getElem?_eq_getElem q1⟩
      have eg : t.ds.getD bd.1 (0, 0) = d := by rw [List.getD_eq_getElem?_getD, ed]; rfl
      have ed' := atD_map (f := pairD) ed
      have hlr : (leftRooms t.ds bd).length ≤ 2 := by
        unfold leftRooms
        dsimp only
        split <;> simp
      walk_at "nrm"
      walk_at "de"
      walk_at "nrm"
      refine ds_seq (ds_set rfl (De.imp (Φ := fun n x => n = ν1 ∧ x = .list ((leftRooms t.ds bd).map fun (r : Nat) => PyData.int (r : Int))) (de_if ?_) fun n x hx2 => ?_))
      · walk_at "de"
        refine ⟨fun e => Do.de (do_list ?_), fun e => ?_⟩
        · have e' : bd.2 = -1 := of_decide_eq_true e
          walk_at "de"
          refine ⟨_, ed', _, .inr rfl, rfl, ?_⟩
          unfold leftRooms
          rw [eg, if_pos e']; rfl
        · have e' : ¬ bd.2 = -1 := of_decide_eq_false e
          walk_at "de"
          refine ⟨_, ed', ?_⟩
          rcases (by omega : bd.2 = 0 ∨ bd.2 = 1) with e0 | e1
          · walk_at "de"
            refine ⟨.int d.1, by rw [e0]; rfl, da_nil ⟨szd rfl, rfl, ?_⟩⟩
            unfold leftRooms
            rw [eg, if_neg e', if_pos e0]; rfl
          · walk_at "de"
            refine ⟨.int d.2, by rw [e1]; rfl, da_nil ⟨szd rfl, rfl, ?_⟩⟩
            unfold leftRooms
            rw [eg, if_neg e', if_neg (by omega)]; rfl
      obtain ⟨rfl, rfl⟩ := hx2
      generalize hLR : leftRooms t.ds bd = LR at hx hlr
      walk_at "nrm"
      refine ds_seq (ds_set rfl (Do.de (do_lck rfl ?_)))
      walk_at "de"
      refine lcF srD rs (overB k) (fun s => .int (s.1 : Int)) (szL (by omega)) rfl (fun sr hm => ?_) ?_
      · dsimp only [srD]
        walk_at "nrm"
        refine dg_name rfl (by simp) ?_
        walk_at "de"
        refine ⟨fun e => ?_, fun e => ⟨rfl, by unfold overB; rw [e, Bool.false_and], fun z => by unfold overB at z; rw [e, Bool.false_and] at z; cases z⟩⟩
        walk_at "de"
        refine ⟨rfl, by unfold overB; rw [e, Bool.true_and], fun _ => ?_⟩
        walk_at "de"
        exact ⟨rfl, rfl⟩
      rw [show ((rs.filter (overB k)).map fun s => PyData.int (s.1 : Int)) = ((rs.filter (overB k)).map fun s => (s.1 : Int)).map .int from by rw [List.map_map]; rfl]
      walk_at "nrm"
      refine ds_seq (ds_set rfl (Do.de (do_lck rfl ?_)))
      walk_at "de"
      refine lcF (fun (r : Nat) => PyData.int (r : Int)) LR (hitB rs k) (fun (r : Nat) => PyData.int (r : Int)) (szL (by omega)) rfl (fun r hr => ?_) ?_
      · walk_at "nrm"
        refine dg_name rfl (by simp) ?_
        walk_at "de"
        refine ⟨_, .inl rfl, rfl, over_hit rs k r, fun _ => ?_⟩
        walk_at "de"
        exact ⟨rfl, rfl⟩
      walk_at "nrm"
      refine ds_seq (ds_set rfl (dI_e ?_))
      walk_at "de"
      refine ⟨(shp_nats _).ok (by decide), (shp_nats _).ok (by decide), ?_⟩
      rw [eqv_natsL, hit_all, ← count_step (fun x => x.all id) hx]
      walk_at "nrm"
      refine ds_set rfl (dI_e ?_)
      walk_at "de"
      refine ⟨szd rfl, (shp_nats _).ok (by decide), rfl, ?_⟩
      rw [eqv_nilL, hit_any, ← count_step (fun x => x.any id) hx]
      walk_at "nrm"
      exact ⟨by omega, rfl, rfl⟩
    · rw [List.length_zipIdx, ← hWl, List.take_of_length_le (Nat.le_refl _)] at hI
      refine ds_wipe [8, 9, 10, 11, 12, 13] hv ?_
      rw [hI]
      refine ds_seq (ds_fork ?_)
      walk_at "de"
      refine forW [13, 14, 15, 16, 17] srD rs rfl 0 (fun i r => r = [.d (houseD t.rooms t.ds), .d (intsD t.B), .d (tapeD t.bs t.ls), .d (.tuple [.str (kindW b), .list (rs.map srD)]), .d (.int ((W.filter fun x => x.all id).length : Int)), .d (.int ((W.filter fun x => x.any id).length : Int)), .d (.int (((rs.take i).map fun s => outB false t s.1 s.2.2).sum - ((rs.take i).map fun s => outB true t s.1 (s.2.1 - 1)).sum)), .d (.int (((rs.take i).map fun s => outB true t s.1 s.2.2).sum - ((rs.take i).map fun s => outB false t s.1 (s.2.1 - 1)).sum)), .un, .un, .un, .un, .un, .un, .un, .un, .un, .un, .un]) rfl rfl (fun i sr ν1 r0 hp hν hI => ?_) (fun ν2 ρ' hν hv hI => ?_)
      · subst hI
        obtain ⟨s1, s2, s3, s4⟩ := hs.ok sr (List.mem_of_getElem? hp)
        have f1 := sum_step (fun s : Sr => outB true t s.1 s.2.2) hp
        have f2 := sum_step (fun s : Sr => outB false t s.1 s.2.2) hp
        have f3 := sum_step (fun s : Sr => outB true t s.1 (s.2.1 - 1)) hp
        have f4 := sum_step (fun s : Sr => outB false t s.1 (s.2.1 - 1)) hp
        dsimp only [srD]
        walk_at "de"
        walk_at "nrm"
        refine ds_seq (ds_par rfl (fun _ => rfl) (de_call0 ?_))
        walk_at "de"
        refine ⟨⟨t.rooms, t.ds, t.B, t.bs, t.ls, sr.1, sr.2.1 - 1⟩, by unfold Tp.arg; rw [show ((sr.2.1 - 1 : Nat) : Int) = (sr.2.1 : Int) - 1 by omega], ok.tp s1, fun n s es => ⟨_, es, de_call0 ?_⟩⟩
        walk_at "de"
        refine ⟨⟨t.rooms, t.ds, t.B, t.bs, t.ls, sr.1, sr.2.2⟩, rfl, ok.tp s1, fun n s es => ⟨_, es, ?_⟩⟩
        walk_at "nrm"
        refine ds_seq (ds_set rfl (dI_e ?_))
        walk_at "de"
        walk_at "nrm"
        refine ds_set rfl (dI_e ?_)
        walk_at "de"
        walk_at "nrm"
        refine ⟨by omega, rfl, ?_⟩
        rw [f1, f2, f3, f4]
        have g1 : ∀ a b c d : Int, a - b + c - d = a + c - (b + d) := by intros; omega
        rw [g1, g1]
        rfl
      · rw [List.take_of_length_le (Nat.le_refl _)] at hI
        refine ds_wipe [13, 14, 15, 16, 17] hv ?_
        rw [hI]
        refine ds_ret (de_if (dt_tTest (dB_eqS ?_)))
        walk_at "de"
        refine ⟨_, _, rfl, rfl, ?_⟩
        cases b with
        | true =>
          refine ⟨fun _ => ?_, fun e => absurd e (by decide +kernel)⟩
          walk_at "de"
          show Sl.d _ = Sl.d (.bool (decide (btw true false t rs < (boundN t rs : Int))))
          unfold boundN btw
          rw [hW]
        | false =>
          refine ⟨(fun e => absurd e (by decide +kernel)), fun _ => ?_⟩
          walk_at "de"
          show Sl.d _ = Sl.d (.bool (decide ((freeN t rs : Int) < btw false true t rs)))
          unfold freeN btw
          rw [hW]
end
end Bd
namespace Bd
open PySem PySem.Spec PyProof.Rows L2 HT
local macro_rules | `(tactic| walk_at "de1") => `(tactic| (with_reducible first
  | refine dI_var rfl ?_ | refine dI_c ?_ | refine dI_op0 ?_ | refine dI_op ?_ | refine dI_un ?_ | refine dI_ixO rfl ?_ | refine dI_ixT ?_ | refine dI_ixL ?_ | refine dI_if ?_ | refine dI_lenO rfl ?_ | refine dI_lenL ?_ | refine dI_abs ?_ | refine dI_two ?_ | refine dI_intB ?_
  | refine dB_var rfl ?_ | refine dB_c ?_ | refine dB_op0 ?_ | refine dB_eqI ?_ | refine dB_neI ?_ | refine dB_inI ?_ | refine dB_not ?_ | refine dB_and ?_ | refine dB_or ?_ | refine dB_chain ?_ | refine dB_eqD ?_ | refine dB_neD ?_ | refine dB_isi ?_
  | refine dL_var rfl ?_ | refine dL_ixO rfl ?_ | refine dL_ixT ?_ | refine dL_ixL ?_ | refine dL_o ?_
  | refine dT_var rfl ?_ | refine dT_ixL ?_ | refine dT_ixT ?_ | refine dT_tup ?_ | refine dT_slT ?_ | refine dT_catT ?_
  | refine de_var rfl ?_ | refine dX_ixO rfl ?_ | refine dX_ixT ?_ | refine dX_ixL ?_ | refine de_tup ?_ | refine de_c rfl ?_ | refine de_if ?_ | refine Do.de (do_lst ?_) | refine de_catTT ?_ | refine de_slTT ?_
  | refine dI_e (dI_op0 ?_) | refine dI_e (dI_op ?_) | refine dI_e (dI_un ?_) | refine dI_e (dI_lenO rfl ?_) | refine dI_e (dI_lenL ?_) | refine dI_e (dI_abs ?_) | refine dI_e (dI_two ?_) | refine dI_e (dI_intB ?_)
  | refine dB_e (dB_op0 ?_) | refine dB_e (dB_eqI ?_) | refine dB_e (dB_neI ?_) | refine dB_e (dB_inI ?_) | refine dB_e (dB_not ?_) | refine dB_e (dB_and ?_) | refine dB_e (dB_or ?_) | refine dB_e (dB_chain ?_) | refine dB_e (dB_eqD ?_) | refine dB_e (dB_neD ?_)
  | refine dt_tB ?_ | refine dt_tTest ?_ | refine dt_not ?_ | refine dt_and ?_ | refine dt_or ?_ | refine dt_yes ?_
  | refine da_nil ?_ | refine da_cons ?_ | refine dp_no ?_ | refine dp_partI ?_
  | refine di_rngI ?_ | refine di_listL ?_ | refine di_zipL ?_ | refine di_enumL ?_
  | refine do_lck rfl ?_ | refine do_lst ?_ | refine do_catL ?_ | refine do_slLL ?_ | refine do_revL ?_
  | refine dg_nm rfl ?_ | refine dg_name rfl (by simp) ?_ | refine dg_tup rfl ?_ | refine dgs_cons ?_ | refine dgs_nil ?_))
local macro_rules | `(tactic| walk_at "de") => `(tactic| (repeat (first | walk_at "de1" | (refine ⟨_, rfl, ?_⟩))))
local macro_rules | `(tactic| walk_at "nrm") => `(tactic| (try dsimp only [List.set, toD, wipeR, List.map, pairD, beadD, lookD]))

local macro_rules | `(tactic| walk_at "dj") => `(tactic| (repeat (first | walk_at "de1" | (refine ⟨_, rfl, ?_⟩) | (refine dI_dip rfl ?_) | (refine dI_e (dI_dip rfl ?_)) | (refine ⟨by omega, by omega, by omega, fun r h0 h1 => ?_⟩) | (refine ⟨szd rfl, ?_⟩) | (refine ⟨(⟨by decide, by decide, by decide⟩ : CPow _ _), ?_⟩))))

abbrev sLawSeenRight : Stmt := topS 31
theorem scLawSeenRight : FnScope ["jug", "home", "rows", "when", "spot", "number"] ["jug", "home", "rows"] (defScope sLawSeenRight) := ⟨rfl, rfl, rfl, by decide +kernel, rfl, by decide +kernel, by decide +kernel⟩
abbrev sLawLate : Stmt := topS 32
theorem scLawLate : FnScope ["jug", "many"] ["jug", "many"] (defScope sLawLate) := ⟨rfl, rfl, rfl, by decide +kernel, rfl, by decide +kernel, by decide +kernel⟩
abbrev sLawTrackBent : Stmt := topS 33
theorem scLawTrackBent : FnScope ["jug", "track", "at", "kind", "side"] ["jug", "track"] (defScope sLawTrackBent) := ⟨rfl, rfl, rfl, by decide +kernel, rfl, by decide +kernel, by decide +kernel⟩
abbrev sLawDrawn : Stmt := topS 34
theorem scLawDrawn : FnScope ["jug", "home", "many", "rows", "spot", "begun"] ["jug", "home", "many"] (defScope sLawDrawn) := ⟨rfl, rfl, rfl, by decide +kernel, rfl, by decide +kernel, by decide +kernel⟩
def spSeen (K : PySem.W.Frag) : Sp := spJ (ι := Ls) K (fun i => [houseD i.rooms i.ds, .list (i.R.map intsD)]) (fun i n => 0 < i.rooms ∧ i.rooms ≤ 10 ∧ 0 < i.R.length ∧ i.R.length ≤ 500 ∧ (∀ F ∈ i.R, Row i.rooms (10 ^ 18 + 400) F) ∧ n + 10 ≤ lim) (fun i n n' s => n' ≤ n + 10 ∧ ∃ l : Lk, s = .d (lookD l) ∧ LookOk i.rooms i.R.length l)
def spLate (K : PySem.W.Frag) : Sp := spJ (ι := Nat) K (fun m => [.int (m : Int)]) (fun m n => 0 < m ∧ m ≤ 100000 ∧ n + 10 ≤ lim) (fun m n n' s => n' ≤ n + 2 ∧ ∃ r : Nat, s = .d (.int (r : Int)) ∧ r < m)
def spTB (K : PySem.W.Frag) : Sp := spJ (ι := List Int) K (fun ws => [intsD ws]) (fun ws n => 0 < ws.length ∧ ws.length ≤ 1000 ∧ n + 20 ≤ lim) (fun ws n n' s => n' ≤ n + 10 ∧ ∃ (a : Addr) (us : List Int), s = .own a (us.map .int) ∧ us.length = ws.length)
structure Dr where
  rooms : Nat
  ds : List (Nat × Nat)
  n : Nat
def spDrawn (K : PySem.W.Frag) : Sp := spJ (ι := Dr) K (fun i => [houseD i.rooms i.ds, .int (i.n : Int)]) (fun i n => 0 < i.n ∧ i.n ≤ 1000 ∧ i.rooms ≤ 10 ∧ n + 200 ≤ lim) (fun i n n' s => n' ≤ n + 100 ∧ ∃ (a : Addr) (rs : List Sr), s = .own a (rs.map srD) ∧ Sts i.rooms i.n rs)
theorem cutD_nat (xs : List PyData) (lo hi : Option Int) (a b : Nat) (ha : HT.sIx xs.length 0 lo = a) (hb : HT.sIx xs.length xs.length hi = b) (hab : a ≤ b) (hbn : b ≤ xs.length) : (cutD xs lo hi).length = b - a := by
  unfold cutD
  rw [ha, hb, List.length_take, List.length_drop]
  omega
theorem sIx_int {n d : Nat} {v : Int} (h : 0 ≤ v) : HT.sIx n d (some v) = min v.toNat n := by
  have := HT.sIx_nat n d v.toNat
  rwa [Int.toNat_of_nonneg h] at this
theorem len_to (xs : List PyData) {a : Int} (h : 0 ≤ a) : (cutD xs none (some a)).length = min a.toNat xs.length := by
  rw [cutD_nat xs none (some a) 0 (min a.toNat xs.length) rfl (sIx_int h) (by omega) (by omega)]; omega
theorem len_from (xs : List PyData) {a : Int} (h : 0 ≤ a) : (cutD xs (some a) none).length = xs.length - min a.toNat xs.length := cutD_nat xs (some a) none (min a.toNat xs.length) xs.length (sIx_int h) rfl (by omega) (by omega)
theorem len_mid (xs : List PyData) {a b : Int} (h : 0 ≤ a) (hb : a ≤ b) : (cutD xs (some a) (some b)).length = min b.toNat xs.length - min a.toNat xs.length := cutD_nat xs (some a) (some b) (min a.toNat xs.length) (min b.toNat xs.length) (sIx_int h) (sIx_int (by omega)) (by omega) (by omega)
/-- so many numbers -/
theorem Tg.nums {xs : List PyData} {n m : Nat} (h : Tg PyData.int xs n) (hl : xs.length = m) : ∃ us : List Int, xs = us.map .int ∧ us.length = m := by
  obtain ⟨L, rfl, _⟩ := h
  exact ⟨L, rfl, by rw [List.length_map] at hl; exact hl⟩
theorem Tg.rev {α : Type} {f : α → PyData} {xs : List PyData} {n : Nat} (h : Tg f xs n) : Tg f xs.reverse n := by
  obtain ⟨L, rfl, hl⟩ := h
  exact ⟨L.reverse, by rw [List.map_reverse], by rw [List.length_reverse]; exact hl⟩
theorem ints_szd {xs ys : List PyData} {n : Nat} (h : xs.length + ys.length ≤ n) (hn : n ≤ 1000000) : xs.length + ys.length ≤ sizeLine := by unfold sizeLine; omega
section
variable {P : Program} {w : World} {K : PySem.W.Frag} {mg : Str → Option Value} {base : Heap}
theorem ok_seen {f : Addr} {fd : FuncData} (F : Fun K "_law_seen_right" "_law_seen_right" sLawSeenRight f fd) (cal_law_dip : Cg P w K mg base 1 "_law_dip" (spDip K)) (m_len : mg "len" = none) : FnG P w K mg base 2 f fd ["jug", "home", "rows"] (spSeen K) := by
  have sc := scLawSeenRight
  refine fnG_of F scLawSeenRight (fun vs H Q E h => by obtain ⟨G, j, h⟩ := h; exact spD_len h fun i => rfl) (fun cdv A outer s H vs Q E hr hg h => ?_)
  obtain ⟨G, j, h⟩ := h
  refine ⟨_, (pss_cons (ps_par (i := 3) (j := 4) (by rfl) sc.nd rfl rfl (by decide) rfl rfl (pa_cons (pe_g cal_law_dip hg hr (by first | decide | exact Nat.le_refl _ | omega) (by rfl) (pa_cons (pv 0) (pa_cons (pe_callB call_len_seq (by rfl) m_len PySem.boot_len (pa_cons (pv 2) pa_nil)) pa_nil))) (pa_cons (pe_g cal_law_dip hg hr (by first | decide | exact Nat.le_refl _ | omega) (by rfl) (pa_cons (pv 0) (pa_cons (pe_ix ix_tup (pv 1) pe_int (fun _ _ => rfl)) pa_nil))) pa_nil)) (by rfl))
  (pss_cons (ps_set (i := 5) sc.nd rfl (.inl rfl) (pe_ix ix_list (pe_ix ix_list (pv 2) (pv 3) (fun _ _ => rfl)) (pv 4) (fun _ _ => rfl)))
  (pss_one (ps_ret (pe_tup (pa_cons (pv 3) (pa_cons (pv 4) (pa_cons (pe_op op_sub (pv 5) (pe_g cal_law_dip hg hr (by first | decide | exact Nat.le_refl _ | omega) (by rfl) (pa_cons (pv 0) (pa_cons pe_int pa_nil)))) (pa_cons (pe_op op_add (pv 5) (pe_g cal_law_dip hg hr (by first | decide | exact Nat.le_refl _ | omega) (by rfl) (pa_cons (pv 0) (pa_cons pe_int pa_nil)))) pa_nil))))))))), ?_⟩
  dsimp only [cxOf, L2.Cx.nox]
  refine fn_ds (fun i => [.at (.ref j), .d (houseD i.rooms i.ds), .d (.list (i.R.map intsD)), .un, .un, .un]) h (fun i => rfl) fun i ν hp => ?_
  obtain ⟨rooms, ds, R⟩ := i
  obtain ⟨hr0, hr10, hR0, hR1, hRows, hn⟩ := hp
  dsimp only at hr0 hr10 hR0 hR1 hRows ⊢
  refine ds_seq (ds_par rfl (fun _ => rfl) ?_)
  walk_at "dj"
  refine ⟨by omega, by rw [List.length_map]; omega, by rw [List.length_map]; omega, fun t ta tb => ?_⟩
  rw [List.length_map] at tb
  walk_at "dj"
  rename_i o oa ob
  walk_at "nrm"
  obtain ⟨F, eF, eF'⟩ := at_lt (f := intsD) ta tb
  have hF := hRows F (List.mem_of_getElem? eF')
  obtain ⟨g1, g2, g3⟩ := hF.get (show o.toNat < rooms by omega)
  have eo : atD (F.map PyData.int) o = some (.int (F.getD o.toNat 0)) := by
    have := atD_ints (ns := F) (i := o.toNat) (by rw [hF.1]; omega)
    rwa [Int.toNat_of_nonneg oa] at this
  generalize F.getD o.toNat 0 = nb at g2 g3 eo
  refine ds_seq (ds_set rfl (dI_e ?_))
  walk_at "dj"
  refine ⟨_, eF, ?_⟩
  walk_at "dj"
  refine ⟨_, eo, ?_⟩
  walk_at "nrm"
  refine ds_ret ?_
  walk_at "dj"
  exact ⟨by omega, (t, o, _, _), rfl, ta, tb, oa, ob, by show _ ≤ nb - _; omega, by show nb - _ ≤ _; omega, by show _ ≤ nb + _; omega, by show nb + _ ≤ _; omega⟩
theorem ok_late {f : Addr} {fd : FuncData} (F : Fun K "_law_late" "_law_late" sLawLate f fd) (cal_law_dip : Cg P w K mg base 1 "_law_dip" (spDip K)) (m_max : mg "max" = none) : FnG P w K mg base 2 f fd ["jug", "many"] (spLate K) := by
  have sc := scLawLate
  refine fnG_of F scLawLate (fun vs H Q E h => by obtain ⟨G, j, h⟩ := h; exact spD_len h fun i => rfl) (fun cdv A outer s H vs Q E hr hg h => ?_)
  obtain ⟨G, j, h⟩ := h
  refine ⟨_, (pss_one (ps_ret (pe_callB (call_max2 rfl) (by rfl) m_max (by decide +kernel) (pa_cons pe_int (pa_cons (pe_op op_sub (pe_op op_sub (pv 1) pe_int) (pe_g cal_law_dip hg hr (by first | decide | exact Nat.le_refl _ | omega) (by rfl) (pa_cons (pv 0) (pa_cons (pe_ix ix_list (pe_lst (pa_cons pe_int (pa_cons pe_int (pa_cons (pv 1) pa_nil)))) (pe_g cal_law_dip hg hr (by first | decide | exact Nat.le_refl _ | omega) (by rfl) (pa_cons (pv 0) (pa_cons pe_int pa_nil))) (fun _ _ => rfl)) pa_nil)))) pa_nil))))), ?_⟩
  dsimp only [cxOf, L2.Cx.nox]
  refine fn_ds (fun (m : Nat) => [.at (.ref j), .d (.int (m : Int))]) h (fun i => rfl) fun m ν hp => ?_
  obtain ⟨hm0, hm1, hn⟩ := hp
  refine ds_ret (dI_e ?_)
  walk_at "dj"
  rename_i r ra rb
  obtain ⟨c, ec, c0, c1⟩ : ∃ c : Int, atD [.int 5, .int 40, .int (m : Int)] r = some (.int c) ∧ 0 < c ∧ c ≤ 100000 := by
    rcases (by omega : r = 0 ∨ r = 1 ∨ r = 2) with rfl | rfl | rfl
    · exact ⟨5, rfl, by decide, by decide⟩
    · exact ⟨40, rfl, by decide, by decide⟩
    · exact ⟨m, rfl, by omega, by omega⟩
  refine ⟨_, ec, ?_⟩
  walk_at "dj"
  rename_i d da db
  refine ⟨by omega, ((if (m : Int) - 1 - d > 0 then (m : Int) - 1 - d else 0)).toNat, ?_, ?_⟩
  · rw [Int.toNat_of_nonneg (by split <;> omega)]
  · split <;> omega
theorem ok_tb {f : Addr} {fd : FuncData} (F : Fun K "_law_track_bent" "_law_track_bent" sLawTrackBent f fd) (cal_law_dip : Cg P w K mg base 1 "_law_dip" (spDip K)) (cal_law_late : Cg P w K mg base 2 "_law_late" (spLate K)) (m_len : mg "len" = none) : FnG P w K mg base 3 f fd ["jug", "track"] (spTB K) := by
  have sc := scLawTrackBent
  refine fnG_of F scLawTrackBent (fun vs H Q E h => by obtain ⟨G, j, h⟩ := h; exact spD_len h fun i => rfl) (fun cdv A outer s H vs Q E hr hg h => ?_)
  obtain ⟨G, j, h⟩ := h
  refine ⟨_, (pss_cons (ps_set (i := 2) sc.nd rfl (.inl rfl) (pe_g cal_law_late hg hr (by first | decide | exact Nat.le_refl _ | omega) (by rfl) (pa_cons (pv 0) (pa_cons (pe_callB call_len_seq (by rfl) m_len PySem.boot_len (pa_cons (pv 1) pa_nil)) pa_nil))))
  (pss_cons (ps_set (i := 3) sc.nd rfl (.inl rfl) (pe_g cal_law_dip hg hr (by first | decide | exact Nat.le_refl _ | omega) (by rfl) (pa_cons (pv 0) (pa_cons pe_int pa_nil))))
  (pss_cons (ps_if (pt_cmpR op_eq (pv 3) pe_int (nomark _))
    (pss_one (ps_ret (pe_op op_cat (pe_op op_cat (pe_slice sl_list (pv 1) po_none (po_some (pv 2))) (pe_lst (pa_cons (pe_op op_sub pe_int (pe_ix ix_list (pv 1) (pv 2) (fun _ _ => rfl))) pa_nil))) (pe_slice sl_list (pv 1) (po_some (pe_op op_add (pv 2) pe_int)) po_none))))
    pss_nil)
  (pss_cons (ps_if (pt_cmpR op_eq (pv 3) pe_int (nomark _))
    (pss_one (ps_ret (pe_op op_cat (pe_op op_cat (pe_slice sl_list (pv 1) po_none (po_some (pv 2))) (pe_revL (pe_slice sl_list (pv 1) (po_some (pv 2)) (po_some (pe_op op_add (pv 2) pe_int))))) (pe_slice sl_list (pv 1) (po_some (pe_op op_add (pv 2) pe_int)) po_none))))
    pss_nil)
  (pss_one (ps_ret (pe_op op_cat (pe_slice sl_list (pv 1) po_none (po_some (pv 2))) (pe_lc (own := [("side", 4)]) (g := gName 4) (tt := tYes) (by rfl) sc.nd  (pi_list (pe_slice sl_list (pv 1) (po_some (pv 2)) po_none)) (blkOk_by (own := [("side", 4)]) (N := ["jug", "track", "at", "kind", "side"]) (sc := defScope sLawTrackBent) (by decide +kernel)) (fun _ _ _ _ _ => (pg_name (i := 4) sc.nd rfl (.inl rfl))) (fun _ _ _ _ _ => pts_nil) (fun _ _ _ _ _ => (pe_op op_sub pe_int (pv 4))))))))))), ?_⟩
  dsimp only [cxOf, L2.Cx.nox]
  refine fn_ds (fun ws => [.at (.ref j), .d (intsD ws), .un, .un, .un]) h (fun i => rfl) fun ws ν hp => ?_
  obtain ⟨hl0, hl1, hn⟩ := hp
  have tg : Tg PyData.int (ws.map .int) ws.length := Tg.of ws
  have hlm : (ws.map PyData.int).length = ws.length := List.length_map ..
  have hw : ∃ L : List Int, L = ws := ⟨_, rfl⟩
  refine ds_seq (ds_set rfl (de_callJ rfl ?_))
  walk_at "dj"
  rw [List.length_map]
  refine ⟨⟨hl0, by omega, by omega⟩, fun ν2 s hs => ?_⟩
  obtain ⟨hν2, a, rfl, ha⟩ := hs
  refine ⟨_, rfl, ?_⟩
  walk_at "nrm"
  refine ds_seq (ds_set rfl (dI_e ?_))
  walk_at "dj"
  rename_i kd ka kb
  walk_at "nrm"
  have ea : atD (ws.map .int) (a : Int) = some (.int (ws.getD a 0)) := atD_ints ha
  have l1 := len_to (ws.map .int) (a := (a : Int)) (by omega)
  have l2 := len_from (ws.map .int) (a := (a : Int)) (by omega)
  have l3 := len_from (ws.map .int) (a := (a : Int) + 1) (by omega)
  have l4 := len_from (ws.map .int) (a := (a : Int) + 2) (by omega)
  have l5 := len_mid (ws.map .int) (a := (a : Int)) (b := (a : Int) + 2) (by omega) (by omega)
  rw [hlm] at l1 l2 l3 l4 l5
  have c1 : Tg PyData.int (cutD (ws.map .int) none (some (a : Int))) ws.length := Tg.cut ws _ _
  have c2 : Tg PyData.int (cutD (ws.map .int) (some (a : Int)) none) ws.length := Tg.cut ws _ _
  have c3 : Tg PyData.int (cutD (ws.map .int) (some ((a : Int) + 1)) none) ws.length := Tg.cut ws _ _
  have c4 : Tg PyData.int (cutD (ws.map .int) (some ((a : Int) + 2)) none) ws.length := Tg.cut ws _ _
  have c5 : Tg PyData.int (cutD (ws.map .int) (some (a : Int)) (some ((a : Int) + 2))) ws.length := Tg.cut ws _ _
  refine ds_seq (ds_if ?_)
  walk_at "dj"
  refine ⟨fun _ => ds_retO (do_catL (dL_o (do_catL (dL_o (do_slLL ?_))))), fun _ => ds_next ?_⟩
  · walk_at "dj"
    refine ⟨_, ea, ?_⟩
    walk_at "dj"
    refine ⟨ints_szd (n := 100000) (by rw [l1]; show _ + 1 ≤ _; omega) (by decide), ?_⟩
    walk_at "dj"
    refine ⟨ints_szd (n := 100000) (by rw [List.length_append, l1, l3]; show _ + 1 + _ ≤ _; omega) (by decide), fun A => ⟨by omega, ?_⟩⟩
    obtain ⟨us, e, hu⟩ := ((c1.app (⟨[1 - ws.getD a 0], rfl, Nat.le_refl _⟩ : Tg PyData.int [PyData.int (1 - ws.getD a 0)] 1)).app c3).nums (m := ws.length) (by rw [List.length_append, List.length_append, l1, l3]; show _ + 1 + _ = _; omega)
    exact ⟨_, us, by rw [← e], hu⟩
  refine ds_seq (ds_if ?_)
  walk_at "dj"
  refine ⟨fun _ => ds_retO (do_catL (dL_o (do_catL (dL_o (do_slLL ?_))))), fun _ => ds_next ?_⟩
  · walk_at "dj"
    refine Do.de (do_slLL ?_)
    walk_at "dj"
    refine ⟨ints_szd (n := 100000) (by rw [List.length_reverse, l1, l5]; omega) (by decide), ?_⟩
    walk_at "dj"
    refine ⟨ints_szd (n := 100000) (by rw [List.length_append, List.length_reverse, l1, l5, l4]; omega) (by decide), fun A => ⟨by omega, ?_⟩⟩
    obtain ⟨us, e, hu⟩ := ((c1.app c5.rev).app c4).nums (m := ws.length) (by rw [List.length_append, List.length_append, List.length_reverse, l1, l4, l5]; omega)
    exact ⟨_, us, by rw [← e], hu⟩
  obtain ⟨V, eV, hV⟩ := c2.nums l2
  refine ds_retO (do_catL (dL_o (do_slLL ?_)))
  walk_at "dj"
  rw [eV]
  refine lcM PyData.int V (fun x => .int (1 - x)) (szL (by omega)) rfl (fun x hx => ?_) ?_
  · walk_at "nrm"
    walk_at "dj"
    exact ⟨rfl, rfl⟩
  · refine ⟨ints_szd (n := 100000) (by rw [l1, List.length_map]; omega) (by decide), fun A => ⟨by omega, ?_⟩⟩
    obtain ⟨us, e, hu⟩ := (c1.app (⟨V.map (fun x => 1 - x), by rw [List.map_map]; rfl, Nat.le_refl _⟩ : Tg PyData.int (V.map fun x => PyData.int (1 - x)) _)).nums (m := ws.length) (by rw [List.length_append, List.length_map, l1]; omega)
    exact ⟨_, us, by rw [← e], hu⟩
theorem ok_drawn {f : Addr} {fd : FuncData} (F : Fun K "_law_drawn" "_law_drawn" sLawDrawn f fd) (cal_law_dip : Cg P w K mg base 1 "_law_dip" (spDip K)) (cal_law_late : Cg P w K mg base 2 "_law_late" (spLate K)) (m_range : mg "range" = none) : FnG P w K mg base 3 f fd ["jug", "home", "many"] (spDrawn K) := by
  have sc := scLawDrawn
  refine fnG_of F scLawDrawn (fun vs H Q E h => by obtain ⟨G, j, h⟩ := h; exact spD_len h fun i => rfl) (fun cdv A outer s H vs Q E hr hg h => ?_)
  obtain ⟨G, j, h⟩ := h
  refine ⟨_, (pss_cons (ps_set (i := 3) sc.nd rfl (.inl rfl) (pe_lst pa_nil))
  (pss_cons (ps_for PassesOwn.never rfl (pi_range1 (by rfl) m_range (pa_cons (pe_ix ix_tup (pv 1) pe_int (fun _ _ => rfl)) pa_nil)) (pg_name (i := 4) sc.nd rfl (.inl rfl))
    (pss_one (ps_if (pt_cmpR op_gt (pe_g cal_law_dip hg hr (by first | decide | exact Nat.le_refl _ | omega) (by rfl) (pa_cons (pv 0) (pa_cons pe_int pa_nil))) pe_int (nomark _))
    (pss_cons (ps_set (i := 5) sc.nd rfl (.inl rfl) (pe_op op_add pe_int (pe_g cal_law_dip hg hr (by first | decide | exact Nat.le_refl _ | omega) (by rfl) (pa_cons (pv 0) (pa_cons (pe_ix ix_list (pe_lst (pa_cons pe_int (pa_cons (pv 2) pa_nil))) (pe_g cal_law_dip hg hr (by first | decide | exact Nat.le_refl _ | omega) (by rfl) (pa_cons (pv 0) (pa_cons pe_int pa_nil))) (fun _ _ => rfl)) pa_nil)))))
  (pss_one (ps_expr (pe_bm PySem.F.plainAttrs_list PySem.F.slot_list_append PySem.F.type_list_append mt_append (pv 3) (pa_cons (pe_tup (pa_cons (pv 4) (pa_cons (pv 5) (pa_cons (pe_op op_add (pv 5) (pe_g cal_law_late hg hr (by first | decide | exact Nat.le_refl _ | omega) (by rfl) (pa_cons (pv 0) (pa_cons (pe_op op_add (pe_op op_sub (pv 2) (pv 5)) pe_int) pa_nil)))) pa_nil)))) pa_nil)))))
    pss_nil)))
  (pss_one (ps_ret (pv 3))))), ?_⟩
  dsimp only [cxOf, L2.Cx.nox]
  refine fn_ds (fun i => [.at (.ref j), .d (houseD i.rooms i.ds), .d (.int (i.n : Int)), .un, .un, .un]) h (fun i => rfl) fun i ν hp => ?_
  obtain ⟨rooms, ds, n⟩ := i
  obtain ⟨hn0, hn1, hr10, hn⟩ := hp
  dsimp only at hn0 hn1 hr10 ⊢
  refine ds_seq (ds_setO rfl (by simp) (do_lst (da_nil ⟨szd rfl, fun Ar => ?_⟩)))
  walk_at "nrm"
  refine ds_seq (ds_fork ?_)
  walk_at "dj"
  refine ⟨by omega, by omega, ?_⟩
  rw [Int.toNat_natCast, rngD_map]
  refine forW [4, 5] (fun (i : Nat) => PyData.int (i : Int)) (List.range rooms) rfl 10 (fun i r => ∃ rs : List Sr, (∀ s ∈ rs, s.1 < i ∧ s.1 < rooms ∧ 1 ≤ s.2.1 ∧ s.2.1 ≤ s.2.2 ∧ s.2.2 ≤ n) ∧ rs.Pairwise (fun a b => a.1 < b.1) ∧ rs.length ≤ i ∧ r = [.at (.ref j), .d (houseD rooms ds), .d (.int (n : Int)), .own Ar (rs.map srD), .un, .un]) rfl ⟨[], (fun s hs => by cases hs), .nil, Nat.le_refl _, rfl⟩ (fun i k ν1 r0 ha hν hI => ?_) (fun ν2 ρ' hν hv hI => ?_)
  · obtain ⟨rs, h1, h2, h3, rfl⟩ := hI
    rw [List.length_range] at hν
    have hk : i < rooms ∧ k = i := by
      have := lt_of_at ha
      rw [List.length_range] at this
      rw [List.getElem?_range this] at ha
      exact ⟨this, (Option.some.inj ha).symm⟩
    obtain ⟨hi, rfl⟩ := hk
    refine dg_nm rfl ?_
    walk_at "nrm"
    refine ds_if ?_
    walk_at "dj"
    refine ⟨fun _ => ds_seq (ds_set rfl (dI_e ?_)), fun _ => ds_next ⟨by omega, rfl, rs, (fun s hs => by have := h1 s hs; omega), h2, by omega, rfl⟩⟩
    walk_at "dj"
    rename_i r ra rb
    obtain ⟨c, ec, c0, c1⟩ : ∃ c : Int, atD [.int 1, .int (n : Int)] r = some (.int c) ∧ 0 < c ∧ c ≤ n := by
      rcases (by omega : r = 0 ∨ r = 1) with rfl | rfl
      · exact ⟨1, rfl, by decide, by omega⟩
      · exact ⟨n, rfl, by omega, by omega⟩
    refine ⟨_, ec, ?_⟩
    walk_at "dj"
    rename_i b ba bb
    walk_at "nrm"
    obtain ⟨b, rfl⟩ : ∃ b' : Nat, b = (b' : Int) := ⟨b.toNat, by omega⟩
    refine ds_append rfl (de_tup (da_cons (de_var rfl (da_cons (de_var rfl (da_cons (dI_e (dI_op0 (dI_var rfl (de_callJ rfl ?_))))))))))
    walk_at "dj"
    refine ⟨n - b, by rw [show ((n - b : Nat) : Int) = (n : Int) - (1 + (b : Int)) + 1 by omega], ⟨by omega, by omega, by omega⟩, fun ν3 s hs => ?_⟩
    obtain ⟨hν3, r', rfl, hr'⟩ := hs
    refine ⟨_, rfl, _, rfl, ?_⟩
    walk_at "dj"
    refine ⟨szL (n := (rs.map srD).length) (by rw [List.length_map]; omega), ?_⟩
    walk_at "nrm"
    refine ⟨by omega, rfl, rs ++ [(k, 1 + b, 1 + b + r')], fun s hs => ?_, ?_, by rw [List.length_append]; show rs.length + 1 ≤ _; omega, ?_⟩
    · rcases List.mem_append.mp hs with h | h
      · have := h1 s h; omega
      · rw [List.mem_singleton] at h
        subst h
        exact ⟨by show k < k + 1; omega, hi, by show 1 ≤ 1 + b; omega, by show 1 + b ≤ 1 + b + r'; omega, by show 1 + b + r' ≤ n; omega⟩
    · rw [List.pairwise_append]
      refine ⟨h2, List.pairwise_singleton _ _, fun a ha b' hb => ?_⟩
      rw [List.mem_singleton] at hb
      subst hb
      exact (h1 a ha).1
    · rw [List.map_append]
      rfl
  · obtain ⟨rs, h1, h2, h3, eR⟩ := hI
    rw [List.length_range] at hν h3
    refine ds_wipe [4, 5] hv ?_
    rw [eR]
    refine ds_retV rfl ?_
    exact ⟨by omega, Ar, rs, rfl, fun s hs => (h1 s hs).2, h2, by show rs.length ≤ 1000; omega⟩
end
end Bd
namespace Bd
open PySem PySem.Spec PyProof.Rows L2 HT
local macro_rules | `(tactic| walk_at "de1") => `(tactic| (with_reducible first
  | refine dI_var rfl ?_ | refine dI_c ?_ | refine dI_op0 ?_ | refine dI_op ?_ | refine dI_un ?_ | refine dI_ixO rfl ?_ | refine dI_ixT ?_ | refine dI_ixL ?_ | refine dI_if ?_ | refine dI_lenO rfl ?_ | refine dI_lenL ?_ | refine dI_abs ?_ | refine dI_two ?_ | refine dI_intB ?_
  | refine dB_var rfl ?_ | refine dB_c ?_ | refine dB_op0 ?_ | refine dB_eqI ?_ | refine dB_neI ?_ | refine dB_inI ?_ | refine dB_not ?_ | refine dB_and ?_ | refine dB_or ?_ | refine dB_chain ?_ | refine dB_eqD ?_ | refine dB_neD ?_ | refine dB_isi ?_
  | refine dL_var rfl ?_ | refine dL_ixO rfl ?_ | refine dL_ixT ?_ | refine dL_ixL ?_ | refine dL_o ?_
  | refine dT_var rfl ?_ | refine dT_ixL ?_ | refine dT_ixT ?_ | refine dT_tup ?_ | refine dT_slT ?_ | refine dT_catT ?_
  | refine de_var rfl ?_ | refine dX_ixO rfl ?_ | refine dX_ixT ?_ | refine dX_ixL ?_ | refine de_tup ?_ | refine de_c rfl ?_ | refine de_if ?_ | refine Do.de (do_lst ?_) | refine de_catTT ?_ | refine de_slTT ?_
  | refine dI_e (dI_op0 ?_) | refine dI_e (dI_op ?_) | refine dI_e (dI_un ?_) | refine dI_e (dI_lenO rfl ?_) | refine dI_e (dI_lenL ?_) | refine dI_e (dI_abs ?_) | refine dI_e (dI_two ?_) | refine dI_e (dI_intB ?_)
  | refine dB_e (dB_op0 ?_) | refine dB_e (dB_eqI ?_) | refine dB_e (dB_neI ?_) | refine dB_e (dB_inI ?_) | refine dB_e (dB_not ?_) | refine dB_e (dB_and ?_) | refine dB_e (dB_or ?_) | refine dB_e (dB_chain ?_) | refine dB_e (dB_eqD ?_) | refine dB_e (dB_neD ?_)
  | refine dt_tB ?_ | refine dt_tTest ?_ | refine dt_not ?_ | refine dt_and ?_ | refine dt_or ?_ | refine dt_yes ?_
  | refine da_nil ?_ | refine da_cons ?_ | refine dp_no ?_ | refine dp_partI ?_
  | refine di_rngI ?_ | refine di_listL ?_ | refine di_zipL ?_ | refine di_enumL ?_
  | refine do_lck rfl ?_ | refine do_lst ?_ | refine do_catL ?_ | refine do_slLL ?_ | refine do_revL ?_
  | refine dg_nm rfl ?_ | refine dg_name rfl (by simp) ?_ | refine dg_tup rfl ?_ | refine dgs_cons ?_ | refine dgs_nil ?_))
local macro_rules | `(tactic| walk_at "de") => `(tactic| (repeat (first | walk_at "de1" | (refine ⟨_, rfl, ?_⟩))))
local macro_rules | `(tactic| walk_at "nrm") => `(tactic| (try dsimp only [List.set, toD, wipeR, List.map, pairD, beadD, lookD]))

local macro_rules | `(tactic| walk_at "dj") => `(tactic| (repeat (first | walk_at "de1" | (refine ⟨_, rfl, ?_⟩) | (refine dI_dip rfl ?_) | (refine dI_e (dI_dip rfl ?_)) | (refine ⟨by omega, by omega, by omega, fun r h0 h1 => ?_⟩) | (refine ⟨szd rfl, ?_⟩) | (refine ⟨(⟨by decide, by decide, by decide⟩ : CPow _ _), ?_⟩))))

abbrev sLawRight : Stmt := topS 35
theorem scLawRight : FnScope ["jug", "home", "start", "reel", "tracks", "one", "sheets", "word", "sheet", "look"] ["jug", "home", "start", "reel", "tracks"] (defScope sLawRight) := ⟨rfl, rfl, rfl, by decide +kernel, rfl, by decide +kernel, by decide +kernel⟩
structure Rt where
  t : Tq
  ts : List (List Int)
structure Rt.Ok (i : Rt) : Prop where
  ok : i.t.Ok
  hB : ∀ x ∈ i.t.B, 0 ≤ x
  r0 : i.t.rooms ≤ 10
  b0 : 0 < i.t.bs.length
  b1 : i.t.bs.length ≤ 400
  l1 : i.t.ls.length ≤ 100
  ht : ∀ x ∈ i.ts, x.length ≤ 10000
def spRiteT (K : PySem.W.Frag) : Sp := spJ (ι := Rt) K (fun i => [houseD i.t.rooms i.t.ds, intsD i.t.B, tapeD i.t.bs i.t.ls, .list (i.ts.map intsD)]) (fun i n => i.Ok ∧ n + 1000 ≤ lim) (fun i n n' s => n' ≤ n + 500 ∧ s = .d (.bool true))
def Sheet.Ok (t : Tq) (s : Sheet) : Prop := (Pp.mk t s).Ok
section
variable {P : Program} {w : World} {K : PySem.W.Frag} {mg : Str → Option Value} {base : Heap}
theorem ok_rightT {f : Addr} {fd : FuncData} (F : Fun K "_law_right" "_law_right" sLawRight f fd) (cal_story_right : Cg P w K mg base 3 "story_right" (spStory K)) (cal_law_stands : Cg P w K mg base 1 "_law_stands" (spStands K)) (cal_law_drawn : Cg P w K mg base 3 "_law_drawn" (spDrawn K)) (cal_paper_right : Cg P w K mg base 4 "paper_right" (spPaper K)) (cal_law_shown : Cg P w K mg base 3 "_law_shown" (spPaper K)) (m_len : mg "len" = none) : FnG P w K mg base 5 f fd ["jug", "home", "start", "reel", "tracks"] (spRiteT K) := by
  have sc := scLawRight
  refine fnG_of F scLawRight (fun vs H Q E h => by obtain ⟨G, j, h⟩ := h; exact spD_len h fun i => rfl) (fun cdv A outer s H vs Q E hr hg h => ?_)
  obtain ⟨G, j, h⟩ := h
  refine ⟨_, (pss_cons (ps_for PassesOwn.never rfl (pi_list (pv 4)) (pg_name (i := 5) sc.nd rfl (.inl rfl))
    (pss_one (ps_if (pt_cmpR op_ne (pe_g cal_story_right hg hr (by first | decide | exact Nat.le_refl _ | omega) (by rfl) (pa_cons (pv 1) (pa_cons (pv 2) (pa_cons (pv 3) (pa_cons (pv 5) pa_nil))))) (pe_g cal_law_stands hg hr (by first | decide | exact Nat.le_refl _ | omega) (by rfl) (pa_cons (pv 1) (pa_cons (pv 2) (pa_cons (pv 3) (pa_cons (pv 5) pa_nil))))) (nomark _))
    (pss_one (ps_ret pe_bl))
    pss_nil)))
  (pss_cons (ps_setLc (i := 6) (own := [("look", 9)]) (g := gName 9) (tt := tYes) (by rfl) sc.nd rfl rfl (sw_true rfl rfl rfl (by decide +kernel)) (pi_list (pe_ix ix_tup (pv 3) pe_int (fun _ _ => rfl))) (blkOk_by (own := [("look", 9)]) (N := ["jug", "home", "start", "reel", "tracks", "one", "sheets", "word", "sheet", "look"]) (sc := defScope sLawRight) (by decide +kernel)) (fun _ _ _ _ _ => (pg_name (i := 9) sc.nd rfl (.inl rfl))) (fun _ _ _ _ _ => pts_nil) (fun _ _ _ _ _ => (pe_tup (pa_cons pe_str (pa_cons (pe_ix (ixK (rIxT K) ix_tup) (pv 9) pe_int (fun _ _ => rfl)) (pa_cons (pe_ix (ixK (rIxT K) ix_tup) (pv 9) pe_int (fun _ _ => rfl)) pa_nil))))))
  (pss_cons (ps_for PassesOwn.never rfl (pi_list (pe_lst (pa_cons pe_str (pa_cons pe_str pa_nil)))) (pg_name (i := 7) sc.nd rfl (.inl rfl))
    (pss_one (ps_expr (pe_bm PySem.F.plainAttrs_list PySem.F.slot_list_append PySem.F.type_list_append mt_append (pv 6) (pa_cons (pe_tup (pa_cons (pv 7) (pa_cons (pe_g cal_law_drawn hg hr (by first | decide | exact Nat.le_refl _ | omega) (by rfl) (pa_cons (pv 0) (pa_cons (pv 1) (pa_cons (pe_callB call_len_seq (by rfl) m_len PySem.boot_len (pa_cons (pe_ix ix_tup (pv 3) pe_int (fun _ _ => rfl)) pa_nil)) pa_nil)))) pa_nil))) pa_nil)))))
  (pss_cons (ps_for PassesOwn.never rfl (pi_list (pv 6)) (pg_name (i := 8) sc.nd rfl (.inl rfl))
    (pss_one (ps_if (pt_cmpR op_ne (pe_g cal_paper_right hg hr (by first | decide | exact Nat.le_refl _ | omega) (by rfl) (pa_cons (pv 1) (pa_cons (pv 2) (pa_cons (pv 3) (pa_cons (pv 8) pa_nil))))) (pe_g cal_law_shown hg hr (by first | decide | exact Nat.le_refl _ | omega) (by rfl) (pa_cons (pv 1) (pa_cons (pv 2) (pa_cons (pv 3) (pa_cons (pv 8) pa_nil))))) (nomark _))
    (pss_one (ps_ret pe_bl))
    pss_nil)))
  (pss_one (ps_ret pe_bl)))))), ?_⟩
  dsimp only [cxOf, L2.Cx.nox]
  refine fn_ds (fun i => [.at (.ref j), .d (houseD i.t.rooms i.t.ds), .d (intsD i.t.B), .d (tapeD i.t.bs i.t.ls), .d (.list (i.ts.map intsD)), .un, .un, .un, .un, .un]) h (fun i => rfl) fun i ν hp => ?_
  obtain ⟨t, ts⟩ := i
  obtain ⟨⟨ok, hB, r0, b0, b1, l1, ht⟩, hn⟩ := hp
  dsimp only at ok hB r0 b0 b1 l1 ht ⊢
  -- the ways
  refine ds_seq (ds_fork ?_)
  walk_at "dj"
  refine forW [5] intsD ts rfl 0 (fun i r => r = [.at (.ref j), .d (houseD t.rooms t.ds), .d (intsD t.B), .d (tapeD t.bs t.ls), .d (.list (ts.map intsD)), .un, .un, .un, .un, .un]) rfl rfl (fun i ws ν1 r0 hk hν hI => ?_) (fun ν2 ρ' hν hv hI => ?_)
  · subst hI
    have so : (Ss.mk t.rooms t.ds t.B t.bs t.ls ws).Ok := ⟨ok.doors, ok.lB, fun b hb => (ok.beads b hb).1, ok.looks, ok.lb, ok.ll, ht ws (List.mem_of_getElem? hk)⟩
    refine dg_nm rfl ?_
    walk_at "nrm"
    refine ds_if (dt_tTest (dB_neB (dB_call0 ?_)))
    walk_at "dj"
    refine ⟨⟨t.rooms, t.ds, t.B, t.bs, t.ls, ws⟩, rfl, so, fun n s es => ⟨_, es, dB_call0 ?_⟩⟩
    walk_at "dj"
    refine ⟨⟨t.rooms, t.ds, t.B, t.bs, t.ls, ws⟩, rfl, ⟨so, hB⟩, fun n s es => ⟨_, es, ?_⟩⟩
    rw [decide_eq_true rfl]
    exact ⟨(fun z => by cases z), fun _ => ds_next ⟨by omega, rfl, rfl⟩⟩
  rw [Nat.zero_mul] at hν
  refine ds_wipe [5] hv ?_
  rw [hI]
  -- the papers
  refine ds_seq (ds_setO rfl (by simp) (do_lck rfl ?_))
  walk_at "dj"
  refine lcM lookD t.ls (fun l => sheetD (.look l.1.toNat l.2.1.toNat)) (szL (by omega)) rfl (fun l hl => ?_) fun As => ?_
  · obtain ⟨l0, _, l2, _⟩ := ok.looks l hl
    walk_at "nrm"
    refine dg_name rfl (by simp) ?_
    walk_at "dj"
    refine ⟨rfl, ?_⟩
    show _ = PyData.tuple [.str "look", .int (l.1.toNat : Int), .int (l.2.1.toNat : Int)]
    rw [Int.toNat_of_nonneg l0, Int.toNat_of_nonneg l2]
    rfl
  rw [show (t.ls.map fun l => sheetD (.look l.1.toNat l.2.1.toNat)) = (t.ls.map fun l => Sheet.look l.1.toNat l.2.1.toNat).map sheetD from by rw [List.map_map]; rfl]
  have hS0 : ∀ s ∈ t.ls.map (fun l => Sheet.look l.1.toNat l.2.1.toNat), Sheet.Ok t s := fun s hs => by
    obtain ⟨l, hl, rfl⟩ := List.mem_map.mp hs
    obtain ⟨q0, q1, q2, q3⟩ := ok.looks l hl
    exact ⟨ok, by show l.1.toNat ≤ t.bs.length; omega, by show l.2.1.toNat < t.rooms; omega⟩
  have hL0 : (t.ls.map (fun l => Sheet.look l.1.toNat l.2.1.toNat)).length ≤ 100 := by rw [List.length_map]; exact l1
  generalize t.ls.map (fun l => Sheet.look l.1.toNat l.2.1.toNat) = S0 at hS0 hL0
  walk_at "nrm"
  refine ds_seq (ds_fork ?_)
  walk_at "dj"
  refine forW [7] (fun b : Bool => PyData.str (kindW b)) [true, false] rfl 100 (fun i r => ∃ S : List Sheet, (∀ s ∈ S, Sheet.Ok t s) ∧ S.length ≤ 100 + i ∧ r = [.at (.ref j), .d (houseD t.rooms t.ds), .d (intsD t.B), .d (tapeD t.bs t.ls), .d (.list (ts.map intsD)), .un, .own As (S.map sheetD), .un, .un, .un]) rfl ⟨S0, hS0, hL0, rfl⟩ (fun i b ν3 r0 hk hν3 hI => ?_) (fun ν4 ρ4 hν4 hv4 hI => ?_)
  · obtain ⟨S, hS, hSl, rfl⟩ := hI
    have hi : i < 2 := lt_of_at hk
    have hν3 : ν3 ≤ ν2 + 100 * 2 := hν3
    refine dg_nm rfl ?_
    walk_at "nrm"
    refine ds_append rfl (de_tup (da_cons (de_var rfl (da_cons (Do.de (do_callJ rfl ?_))))))
    walk_at "dj"
    rw [List.length_map]
    refine ⟨⟨t.rooms, t.ds, t.bs.length⟩, rfl, ⟨b0, by show t.bs.length ≤ 1000; omega, r0, by omega⟩, fun ν5 s hs => ?_⟩
    obtain ⟨hν5, A2, rs, rfl, hrs⟩ := hs
    refine ⟨A2, _, rfl, ?_⟩
    walk_at "dj"
    refine ⟨szL (n := (S.map sheetD).length) (by rw [List.length_map]; omega), ?_⟩
    walk_at "nrm"
    refine ⟨by omega, rfl, S ++ [.rows b rs], fun s hs => ?_, by rw [List.length_append]; show S.length + 1 ≤ _; omega, by rw [List.map_append]; rfl⟩
    rcases List.mem_append.mp hs with h | h
    · exact hS s h
    · rw [List.mem_singleton] at h
      subst h
      exact ⟨ok, hrs⟩
  obtain ⟨S, hS, hSl, eR⟩ := hI
  have hν4 : ν4 ≤ ν2 + 100 * 2 := hν4
  refine ds_wipe [7] hv4 ?_
  rw [eR]
  refine ds_freeze 6 rfl ?_
  walk_at "nrm"
  refine ds_seq (ds_fork ?_)
  walk_at "dj"
  refine forW [8] sheetD S rfl 0 (fun i r => r = [.at (.ref j), .d (houseD t.rooms t.ds), .d (intsD t.B), .d (tapeD t.bs t.ls), .d (.list (ts.map intsD)), .un, .d (.list (S.map sheetD)), .un, .un, .un]) rfl rfl (fun i sh ν6 r0 hk hν6 hI => ?_) (fun ν7 ρ7 hν7 hv7 hI => ?_)
  · subst hI
    have so := hS sh (List.mem_of_getElem? hk)
    refine dg_nm rfl ?_
    walk_at "nrm"
    refine ds_if (dt_tTest (dB_neB (dB_call0 ?_)))
    walk_at "dj"
    refine ⟨⟨t, sh⟩, rfl, so, fun n s es => ⟨_, es, dB_call0 ?_⟩⟩
    walk_at "dj"
    refine ⟨⟨t, sh⟩, rfl, so, fun n s es => ⟨_, es, ?_⟩⟩
    rw [decide_eq_true rfl]
    exact ⟨(fun z => by cases z), fun _ => ds_next ⟨by omega, rfl, rfl⟩⟩
  · rw [Nat.zero_mul] at hν7
    refine ds_ret ?_
    walk_at "dj"
    exact ⟨by omega, rfl⟩
end
end Bd
namespace Bd
open PySem PySem.Spec PyProof.Rows L2 HT
local macro_rules | `(tactic| walk_at "de1") => `(tactic| (with_reducible first
  | refine dI_var rfl ?_ | refine dI_c ?_ | refine dI_op0 ?_ | refine dI_op ?_ | refine dI_un ?_ | refine dI_ixO rfl ?_ | refine dI_ixT ?_ | refine dI_ixL ?_ | refine dI_if ?_ | refine dI_lenO rfl ?_ | refine dI_lenL ?_ | refine dI_abs ?_ | refine dI_two ?_ | refine dI_intB ?_
  | refine dB_var rfl ?_ | refine dB_c ?_ | refine dB_op0 ?_ | refine dB_eqI ?_ | refine dB_neI ?_ | refine dB_inI ?_ | refine dB_not ?_ | refine dB_and ?_ | refine dB_or ?_ | refine dB_chain ?_ | refine dB_eqD ?_ | refine dB_neD ?_ | refine dB_isi ?_
  | refine dL_var rfl ?_ | refine dL_ixO rfl ?_ | refine dL_ixT ?_ | refine dL_ixL ?_ | refine dL_o ?_
  | refine dT_var rfl ?_ | refine dT_ixL ?_ | refine dT_ixT ?_ | refine dT_tup ?_ | refine dT_slT ?_ | refine dT_catT ?_
  | refine de_var rfl ?_ | refine dX_ixO rfl ?_ | refine dX_ixT ?_ | refine dX_ixL ?_ | refine de_tup ?_ | refine de_c rfl ?_ | refine de_if ?_ | refine Do.de (do_lst ?_) | refine de_catTT ?_ | refine de_slTT ?_
  | refine dI_e (dI_op0 ?_) | refine dI_e (dI_op ?_) | refine dI_e (dI_un ?_) | refine dI_e (dI_lenO rfl ?_) | refine dI_e (dI_lenL ?_) | refine dI_e (dI_abs ?_) | refine dI_e (dI_two ?_) | refine dI_e (dI_intB ?_)
  | refine dB_e (dB_op0 ?_) | refine dB_e (dB_eqI ?_) | refine dB_e (dB_neI ?_) | refine dB_e (dB_inI ?_) | refine dB_e (dB_not ?_) | refine dB_e (dB_and ?_) | refine dB_e (dB_or ?_) | refine dB_e (dB_chain ?_) | refine dB_e (dB_eqD ?_) | refine dB_e (dB_neD ?_)
  | refine dt_tB ?_ | refine dt_tTest ?_ | refine dt_not ?_ | refine dt_and ?_ | refine dt_or ?_ | refine dt_yes ?_
  | refine da_nil ?_ | refine da_cons ?_ | refine dp_no ?_ | refine dp_partI ?_
  | refine di_rngI ?_ | refine di_listL ?_ | refine di_zipL ?_ | refine di_enumL ?_
  | refine do_lck rfl ?_ | refine do_lst ?_ | refine do_catL ?_ | refine do_slLL ?_ | refine do_revL ?_
  | refine dg_nm rfl ?_ | refine dg_name rfl (by simp) ?_ | refine dg_tup rfl ?_ | refine dgs_cons ?_ | refine dgs_nil ?_))
local macro_rules | `(tactic| walk_at "de") => `(tactic| (repeat (first | walk_at "de1" | (refine ⟨_, rfl, ?_⟩))))
local macro_rules | `(tactic| walk_at "nrm") => `(tactic| (try dsimp only [List.set, toD, wipeR, List.map, pairD, beadD, lookD]))

local macro_rules | `(tactic| walk_at "dj") => `(tactic| (repeat (first | walk_at "de1" | (refine ⟨_, rfl, ?_⟩) | (refine dI_dip rfl ?_) | (refine dI_e (dI_dip rfl ?_)) | (refine ⟨by omega, by omega, by omega, fun r h0 h1 => ?_⟩) | (refine ⟨szd rfl, ?_⟩) | (refine ⟨(⟨by decide, by decide, by decide⟩ : CPow _ _), ?_⟩))))

abbrev sLaw : Stmt := topS 36
theorem scLaw : FnScope ["script", "k", "jug", "home", "start", "moves", "rows", "looks", "beads", "track", "turn", "bent", "tracks", "near", "door", "side", "again"] ["script"] (defScope sLaw) := ⟨rfl, rfl, rfl, by decide +kernel, rfl, by decide +kernel, by decide +kernel⟩
section
variable {P : Program} {w : World} {K : PySem.W.Frag} {mg : Str → Option Value} {base : Heap}
theorem ok_law {f : Addr} {fd : FuncData} (F : Fun K "law" "law" sLaw f fd) (cal_law_jug : Cg P w K mg base 1 "_law_jug" (spJug K)) (cal_law_dip : Cg P w K mg base 1 "_law_dip" (spDip K)) (cal_law_house : Cg P w K mg base 2 "_law_house" (spHouse K)) (cal_law_folk : Cg P w K mg base 2 "_law_folk" (spFolk K)) (cal_law_gone : Cg P w K mg base 2 "_law_gone" (spGone K)) (cal_law_look : Cg P w K mg base 2 "_law_look" (spLook K)) (cal_law_seen_right : Cg P w K mg base 2 "_law_seen_right" (spSeen K)) (cal_law_hidden : Cg P w K mg base 2 "_law_hidden" (spHidden K)) (cal_law_track_bent : Cg P w K mg base 3 "_law_track_bent" (spTB K)) (cal_law_right : Cg P w K mg base 5 "_law_right" (spRiteT K))
    (m_range : mg "range" = none) (m_max : mg "max" = none) (m_min : mg "min" = none) (m_len : mg "len" = none) (m_int : mg "int" = none) : FnG P w K mg base 6 f fd ["script"] (spLaw K) := by
  have sc := scLaw
  refine fnG_of F scLaw (fun vs H Q E h => by obtain ⟨a, ns, rfl, _⟩ := h; rfl) (fun cdv A outer s H vs Q E hr hg h => ?_)
  obtain ⟨a, ns, rfl, hS, hlen, q⟩ := h
  refine ⟨_, (pss_cons (ps_for PassesOwn.never rfl (pi_range1 (by rfl) m_range (pa_cons (pe_callB (call_max2 rfl) (by rfl) m_max (by decide +kernel) (pa_cons pe_int (pa_cons (pe_callB (call_min2 rfl) (by rfl) m_min (by decide +kernel) (pa_cons pe_int (pa_cons (pe_callB call_len_seq (by rfl) m_len PySem.boot_len (pa_cons (pv 0) pa_nil)) pa_nil))) pa_nil))) pa_nil)) (pg_name (i := 1) sc.nd rfl (.inl rfl))
    (pss_cons (ps_set (i := 2) sc.nd rfl (.inr rfl) (pe_g cal_law_jug hg hr (by first | decide | exact Nat.le_refl _ | omega) (by rfl) (pa_cons (pv 0) (pa_cons (pv 1) pa_nil))))
  (pss_cons (ps_set (i := 3) sc.nd rfl (.inr rfl) (pe_g cal_law_house hg hr (by first | decide | exact Nat.le_refl _ | omega) (by rfl) (pa_cons (pv 2) (pa_cons pe_int (pa_cons pe_int pa_nil)))))
  (pss_cons (ps_set (i := 4) sc.nd rfl (.inl rfl) (pe_g cal_law_folk hg hr (by first | decide | exact Nat.le_refl _ | omega) (by rfl) (pa_cons (pv 2) (pa_cons (pv 3) pa_nil))))
  (pss_cons (ps_asg (pe_g cal_law_gone hg hr (by first | decide | exact Nat.le_refl _ | omega) (by rfl) (pa_cons (pv 2) (pa_cons (pv 3) (pa_cons (pv 4) (pa_cons pe_int pa_nil))))) (pg_tup (by rfl) (pgs_cons (pg_name (i := 5) sc.nd rfl (.inl rfl)) (pgs_cons (pg_name (i := 6) sc.nd rfl (.inr rfl)) pgs_nil))))
  (pss_cons (ps_setLc (i := 7) (own := [("turn", 10)]) (g := gName 10) (tt := tYes) (by rfl) sc.nd rfl rfl (sw_true rfl rfl rfl (by decide +kernel)) (pi_range1 (by rfl) m_range (pa_cons (pe_g cal_law_dip hg hr (by first | decide | exact Nat.le_refl _ | omega) (by rfl) (pa_cons (pv 2) (pa_cons pe_int pa_nil))) pa_nil)) (blkOk_by (own := [("turn", 10)]) (N := ["script", "k", "jug", "home", "start", "moves", "rows", "looks", "beads", "track", "turn", "bent", "tracks", "near", "door", "side", "again"]) (sc := defScope sLaw) (by decide +kernel)) (fun _ _ _ _ _ => (pg_name (i := 10) sc.nd rfl (.inl rfl))) (fun _ _ _ _ _ => pts_nil) (fun _ _ _ _ _ => (pe_g cal_law_seen_right hg hr (by first | decide | exact Nat.le_refl _ | omega) (by rfl) (pa_cons (pv 2) (pa_cons (pv 3) (pa_cons (pv 6) pa_nil))))))
  (pss_cons (ps_set (i := 8) sc.nd rfl (.inl rfl) (pe_g cal_law_hidden hg hr (by first | decide | exact Nat.le_refl _ | omega) (by rfl) (pa_cons (pv 2) (pa_cons (pv 5) pa_nil))))
  (pss_cons (ps_setLc (i := 9) (own := [("door", 14), ("side", 15)]) (g := gTup K 2 (gCons (gName 14) (gCons (gName 15) gNil))) (tt := tYes) (by rfl) sc.nd rfl rfl (sw_true rfl rfl rfl (by decide +kernel)) (pi_list (pv 5)) (blkOk_by (own := [("door", 14), ("side", 15)]) (N := ["script", "k", "jug", "home", "start", "moves", "rows", "looks", "beads", "track", "turn", "bent", "tracks", "near", "door", "side", "again"]) (sc := defScope sLaw) (by decide +kernel)) (fun _ _ _ _ _ => (pg_tup (by rfl) (pgs_cons (pg_name (i := 14) sc.nd rfl (.inl rfl)) (pgs_cons (pg_name (i := 15) sc.nd rfl (.inl rfl)) pgs_nil)))) (fun _ _ _ _ _ => pts_nil) (fun _ _ _ _ _ => (pv 15)))
  (pss_one (ps_for PassesOwn.never rfl (pi_range1 (by rfl) m_range (pa_cons (pe_op op_mul pe_int (pe_callTy call_int1 (by rfl) m_int (by decide +kernel) (pa_cons (pe_cmpR (op_neD hr.units) (pv 9) (pe_lst pa_nil) (nomark _)) pa_nil))) pa_nil)) (pg_name (i := 10) sc.nd rfl (.inl rfl))
    (pss_cons (ps_set (i := 11) sc.nd rfl (.inl rfl) (pe_g cal_law_track_bent hg hr (by first | decide | exact Nat.le_refl _ | omega) (by rfl) (pa_cons (pv 2) (pa_cons (pv 9) pa_nil))))
  (pss_cons (ps_set (i := 12) sc.nd rfl (.inl rfl) (pe_lst (pa_cons (pv 9) (pa_cons (pv 11) (pa_cons (pe_g cal_law_track_bent hg hr (by first | decide | exact Nat.le_refl _ | omega) (by rfl) (pa_cons (pv 2) (pa_cons (pv 11) pa_nil))) pa_nil)))))
  (pss_cons (ps_setLc (i := 13) (own := [("again", 16)]) (g := gName 16) (tt := tYes) (by rfl) sc.nd rfl rfl (sw_true rfl rfl rfl (by decide +kernel)) (pi_range1 (by rfl) m_range (pa_cons (pe_op op_mul (pe_g cal_law_dip hg hr (by first | decide | exact Nat.le_refl _ | omega) (by rfl) (pa_cons (pv 2) (pa_cons pe_int pa_nil))) (pe_op op_fdiv (pv 10) pe_int)) pa_nil)) (blkOk_by (own := [("again", 16)]) (N := ["script", "k", "jug", "home", "start", "moves", "rows", "looks", "beads", "track", "turn", "bent", "tracks", "near", "door", "side", "again"]) (sc := defScope sLaw) (by decide +kernel)) (fun _ _ _ _ _ => (pg_name (i := 16) sc.nd rfl (.inl rfl))) (fun _ _ _ _ _ => pts_nil) (fun _ _ _ _ _ => (pe_g cal_law_look hg hr (by first | decide | exact Nat.le_refl _ | omega) (by rfl) (pa_cons (pv 2) (pa_cons (pv 3) (pa_cons (pv 6) pa_nil))))))
  (pss_one (ps_if (pt_not (pt_val (pe_g cal_law_right hg hr (by first | decide | exact Nat.le_refl _ | omega) (by rfl) (pa_cons (pv 2) (pa_cons (pv 3) (pa_cons (pv 4) (pa_cons (pe_tup (pa_cons (pv 8) (pa_cons (pe_op op_cat (pv 7) (pv 13)) pa_nil))) (pa_cons (pv 12) pa_nil))))))))
    (pss_one (ps_ret pe_bl))
    pss_nil)))))))))))))))
  (pss_one (ps_ret pe_bl))), ?_⟩
  dsimp only [cxOf, L2.Cx.nox]
  refine law_run hS q fun G hG => ?_
  show Ds K (Wg G) [.at (.ref a), .un, .un, .un, .un, .un, .un, .un, .un, .un, .un, .un, .un, .un, .un, .un, .un] _ _ _
  refine ds_seq (ds_fork (di_rngI (dI_two (dI_c (dI_two (dI_c (dI_lenG rfl hG ?_)))))))
  obtain ⟨n, en, hn⟩ : ∃ n : Nat, (if (if (ns.length : Int) < 3 then (ns.length : Int) else 3) > 1 then if (ns.length : Int) < 3 then (ns.length : Int) else 3 else 1) = (n : Int) ∧ n ≤ 3 := by
    refine ⟨(if (if (ns.length : Int) < 3 then (ns.length : Int) else 3) > 1 then if (ns.length : Int) < 3 then (ns.length : Int) else 3 else 1).toNat, ?_, ?_⟩ <;> split <;> (try split) <;> omega
  rw [en, Int.toNat_natCast, rngD_map]
  refine ⟨by omega, by omega, ?_⟩
  refine forW [1, 2, 3, 4, 5, 6, 7, 8, 9, 10, 11, 12, 13, 14, 15, 16] (fun (i : Nat) => PyData.int (i : Int)) (List.range n) rfl 100000 (fun _ r => r = [.at (.ref a), .un, .un, .un, .un, .un, .un, .un, .un, .un, .un, .un, .un, .un, .un, .un, .un]) rfl rfl (fun i k ν1 r0 ha hν hI => ?_) (fun ν2 ρ' hν hv hI => ?_)
  · subst hI
    have hk : k < n := List.mem_range.mp (List.mem_of_getElem? ha)
    refine dg_nm rfl ?_
    walk_at "nrm"
    refine ds_seq (ds_setO rfl (by simp) (do_jug rfl hG ?_))
    walk_at "de"
    refine ⟨by omega, fun x y y0 y1 A => ?_⟩
    walk_at "nrm"
    refine ds_open (J := JugP) (ns := [x, y, 0]) 2 0 (fun _ h => h) rfl ⟨x, y, 0, rfl, y0, y1, by decide, by decide⟩ ?_
    walk_at "nrm"
    have hlim : 1000000 ≤ lim := by decide
    refine ds_seq (ds_set rfl (de_callJ rfl ?_))
    walk_at "dj"
    refine ⟨(10, 25), rfl, ⟨by decide, by decide, by decide, by decide, by omega⟩, fun ν2 s hs => ?_⟩
    obtain ⟨hν2, rooms, ds, rfl, hr0, hr1, hd, hD⟩ := hs
    refine ⟨_, rfl, ?_⟩
    have hr1 : rooms ≤ 10 := hr1
    have hd : ds.length < 25 := hd
    walk_at "nrm"
    refine ds_seq (ds_set rfl (de_callJ rfl ?_))
    walk_at "dj"
    refine ⟨⟨rooms, ds⟩, rfl, ⟨hr1, by omega⟩, fun ν3 s hs => ?_⟩
    obtain ⟨hν3, B, rfl, hB1, hB2⟩ := hs
    have hB1 : B.length = rooms := hB1
    refine ⟨_, rfl, ?_⟩
    walk_at "nrm"
    refine ds_seq (ds_asg (de_callJ rfl ?_))
    walk_at "dj"
    refine ⟨⟨rooms, ds, B, 200⟩, rfl, ⟨by show 200 ≤ 400; omega, hD, by show ds.length ≤ 100; omega, ⟨hB1, hB2⟩, by omega⟩, fun ν4 s hs => ?_⟩
    obtain ⟨hν4, mv, R, rfl, hm1, hmv, hR, hRows⟩ := hs
    have hm1 : mv.length ≤ 200 := hm1
    refine ⟨_, rfl, ?_⟩
    walk_at "dj"
    walk_at "nrm"
    -- looks
    refine ds_seq (ds_set rfl (Do.de (do_lck rfl ?_)))
    walk_at "dj"
    rename_i r2 r2a r2b
    refine ⟨by omega, by omega, ?_⟩
    rw [rngD_map]
    refine lcP (fun (i : Nat) => PyData.int (i : Int)) (List.range r2.toNat) (fun _ y => ∃ l : Lk, y = lookD l ∧ LookOk rooms (mv.length + 1) l) 10 (szL (by rw [List.length_range]; omega)) rfl (fun _ _ ν5 hν5 => ?_) (fun ν5 ys hν5 hy hq => ?_)
    · rw [List.length_range] at hν5
      walk_at "nrm"
      refine dg_name rfl (by simp) (de_callJ rfl ?_)
      walk_at "dj"
      refine ⟨⟨rooms, ds, R⟩, rfl, ⟨hr0, hr1, by show 0 < R.length; omega, by show R.length ≤ 500; omega, hRows, by omega⟩, fun ν6 s hs => ?_⟩
      obtain ⟨hν6, l, rfl, hl1⟩ := hs
      refine ⟨_, rfl, hν6, l, rfl, ?_⟩
      rw [← hR]; exact hl1
    rw [List.length_range] at hν5 hy
    obtain ⟨ls, rfl, hls⟩ : ∃ ls : List Lk, ys = ls.map lookD ∧ ∀ l ∈ ls, LookOk rooms (mv.length + 1) l := by
      refine things_of fun y hy' => ?_
      obtain ⟨m, hm⟩ := List.getElem?_of_mem hy'
      have hm' := lt_of_at hm
      exact hq m m y (List.getElem?_range (by omega)) hm
    rw [List.length_map] at hy
    walk_at "nrm"
    refine ds_seq (ds_set rfl (Do.de (do_callJ rfl ?_)))
    walk_at "dj"
    refine ⟨⟨ds.length, mv⟩, rfl, ⟨by show mv.length ≤ 400; omega, hmv, by omega⟩, fun ν6 s hs => ?_⟩
    obtain ⟨hν6, A2, bs, rfl, hb1, hb2⟩ := hs
    have hb1 : bs.length = mv.length := hb1
    refine ⟨A2, _, rfl, ?_⟩
    walk_at "nrm"
    -- the ways by which they were gone
    refine ds_seq (ds_set rfl (Do.de (do_lck rfl ?_)))
    walk_at "dj"
    refine lcM beadD mv (fun b => .int b.2) (szL (by omega)) rfl (fun b hb => ?_) ?_
    · walk_at "nrm"
      walk_at "dj"
      exact ⟨rfl, rfl⟩
    rw [show (mv.map fun b => PyData.int b.2) = (mv.map fun b => b.2).map .int from by rw [List.map_map]; rfl]
    obtain ⟨T0, eT0, hT0⟩ : ∃ T0 : List Int, (mv.map fun b : Bead => b.2) = T0 ∧ T0.length = mv.length := ⟨_, rfl, by rw [List.length_map]⟩
    rw [eT0]
    walk_at "nrm"
    refine ds_fork ?_
    walk_at "dj"
    rw [show PyData.eqv (.list (T0.map PyData.int)) (.list []) = decide (T0.map PyData.int = []) from eqv_nilL _]
    obtain ⟨tn, etn, htn, htn'⟩ : ∃ tn : Nat, 4 * (if (!decide (T0.map PyData.int = [])) = true then (1 : Int) else 0) = (tn : Int) ∧ tn ≤ 4 ∧ (0 < tn → 0 < mv.length) := by
      cases T0 with
      | nil => exact ⟨0, by rw [if_neg (by decide)]; rfl, by omega, fun h => absurd h (by decide)⟩
      | cons d T0 => exact ⟨4, by rw [if_pos (by simp)]; rfl, by omega, fun _ => by rw [← hT0]; simp⟩
    rw [etn]
    refine ⟨(shp_ints (n := 0) T0).ok (by decide), rfl, .inl ⟨by decide, by decide⟩, by omega, by omega, ?_⟩
    rw [Int.toNat_natCast, rngD_map]
    refine forW [10, 11, 12, 13] (fun (i : Nat) => PyData.int (i : Int)) (List.range tn) rfl 10000 (fun i r => r = [.at (.ref a), .d (.int k), .at (.ref A), .d (houseD rooms ds), .d (intsD B), .d (.list (mv.map beadD)), .d (.list (R.map intsD)), .d (.list (ls.map lookD)), .d (.list (bs.map beadD)), .d (intsD T0), .un, .un, .un, .un, .un, .un, .un]) rfl rfl (fun i c ν7 r0 hc hν7 hI => ?_) (fun ν8 ρ8 hν8 hv8 hI => ?_)
    · subst hI
      rw [List.length_range] at hν7
      have hi : i < tn ∧ c = i := by
        have := lt_of_at hc
        rw [List.length_range] at this
        rw [List.getElem?_range this] at hc
        exact ⟨this, (Option.some.inj hc).symm⟩
      obtain ⟨hi, rfl⟩ := hi
      have hmv0 := htn' (by omega)
      refine dg_nm rfl ?_
      walk_at "nrm"
      refine ds_seq (ds_set rfl (Do.de (do_callJ rfl ?_)))
      walk_at "dj"
      refine ⟨⟨by omega, by omega, by omega⟩, fun ν9 s hs => ?_⟩
      obtain ⟨hν9, A3, T1, rfl, hT1⟩ := hs
      refine ⟨A3, _, rfl, ?_⟩
      walk_at "nrm"
      refine ds_seq (ds_set rfl (Do.de (do_lst (da_cons (de_var rfl (da_cons (de_var rfl (da_cons (Do.de (do_callJ rfl ?_))))))))))
      walk_at "dj"
      refine ⟨⟨by omega, by omega, by omega⟩, fun ν10 s hs => ?_⟩
      obtain ⟨hν10, A4, T2, rfl, hT2⟩ := hs
      refine ⟨A4, _, rfl, ?_⟩
      walk_at "dj"
      walk_at "nrm"
      -- looks that are near
      refine ds_seq (ds_set rfl (Do.de (do_lck rfl ?_)))
      walk_at "dj"
      rename_i r3 r3a r3b
      obtain ⟨m, em, hm, hc2⟩ : ∃ m : Nat, r3 * ((c : Int) / 2) = (m : Int) ∧ m ≤ 2 ∧ ((c : Int) / 2 = 0 ∨ (c : Int) / 2 = 1) := by
        rcases (by omega : (c : Int) / 2 = 0 ∨ (c : Int) / 2 = 1) with e | e
        · exact ⟨0, by rw [e, Int.mul_zero]; rfl, by omega, .inl e⟩
        · exact ⟨r3.toNat, by rw [e, Int.mul_one]; omega, by omega, .inr e⟩
      have hcm : CMul r3 ((c : Int) / 2) := .inr (by rcases hc2 with e | e <;> rw [e] <;> exact ⟨by decide, by decide⟩)
      refine ⟨⟨by decide, by decide⟩, hcm, ?_⟩
      rw [em]
      refine ⟨by omega, by omega, ?_⟩
      rw [Int.toNat_natCast, rngD_map]
      refine lcP (fun (i : Nat) => PyData.int (i : Int)) (List.range m) (fun _ y => ∃ l : Lk, y = lookD l ∧ LookOk rooms (mv.length + 1) l) 10 (szL (by rw [List.length_range]; omega)) rfl (fun _ _ ν11 hν11 => ?_) (fun ν11 ys hν11 hy hq => ?_)
      · rw [List.length_range] at hν11
        walk_at "nrm"
        refine dg_name rfl (by simp) (de_callJ rfl ?_)
        walk_at "dj"
        refine ⟨⟨rooms, ds, R⟩, rfl, ⟨hr0, hr1, by show 0 < R.length; omega, by show R.length ≤ 500; omega, hRows, by omega⟩, fun ν12 s hs => ?_⟩
        obtain ⟨hν12, l, rfl, hl1, _⟩ := hs
        refine ⟨_, rfl, hν12, l, rfl, ?_⟩
        rw [← hR]; exact hl1
      rw [List.length_range] at hν11 hy
      obtain ⟨ls2, rfl, hls2⟩ : ∃ ls2 : List Lk, ys = ls2.map lookD ∧ ∀ l ∈ ls2, LookOk rooms (mv.length + 1) l := by
        refine things_of fun y hy' => ?_
        obtain ⟨m', hm'⟩ := List.getElem?_of_mem hy'
        have hm2 := lt_of_at hm'
        exact hq m' m' y (List.getElem?_range (by omega)) hm'
      rw [List.length_map] at hy
      walk_at "nrm"
      refine ds_if (dt_not (dt_tB (de_callJ rfl ?_)))
      walk_at "dj"
      refine Do.de (do_catL ?_)
      walk_at "dj"
      refine ⟨by rw [List.length_map, List.length_map]; show ls.length + ls2.length ≤ sizeLine; unfold sizeLine; omega, ?_⟩
      walk_at "dj"
      refine ⟨⟨⟨rooms, ds, B, bs, ls ++ ls2⟩, [T0, T1, T2]⟩, ?_, ⟨⟨⟨hD, hB1, hb2, fun l hl => ?_, by show bs.length ≤ 10000; omega, ?_⟩, fun x hx => (hB2 x hx).1, hr1, by show 0 < bs.length; omega, by show bs.length ≤ 400; omega, ?_, fun T hT => ?_⟩, by omega⟩, fun ν13 s hs => ?_⟩
      · show _ = [houseD rooms ds, intsD B, tapeD bs (ls ++ ls2), .list [intsD T0, intsD T1, intsD T2]]
        unfold tapeD
        rw [List.map_append]
        rfl
      · have hok : LookOk rooms (mv.length + 1) l := by
          rcases List.mem_append.mp hl with h | h
          · exact hls l h
          · exact hls2 l h
        obtain ⟨q1, q2, q3, q4, _⟩ := hok
        exact ⟨q1, by show l.1 ≤ (bs.length : Int); omega, q3, q4⟩
      · show (ls ++ ls2).length ≤ 10000
        rw [List.length_append]; omega
      · show (ls ++ ls2).length ≤ 100
        rw [List.length_append]; omega
      · simp only [List.mem_cons, List.not_mem_nil, or_false] at hT
        rcases hT with rfl | rfl | rfl <;> omega
      · obtain ⟨hν13, rfl⟩ := hs
        exact ⟨_, rfl, _, rfl, (fun z => by simp at z), fun _ => ds_next ⟨by omega, rfl, rfl⟩⟩
    · rw [List.length_range] at hν8
      obtain ⟨w1, w2⟩ := wipe_on [1, 2, 3, 4, 5, 6, 7, 8, 9, 10, 11, 12, 13, 14, 15, 16] hv8 hI rfl rfl
      exact ⟨by omega, w1, w2⟩
  · refine ds_wipe [1, 2, 3, 4, 5, 6, 7, 8, 9, 10, 11, 12, 13, 14, 15, 16] hv ?_
    rw [hI]
    refine ds_ret ?_
    walk_at "dj"
    rfl
end
end Bd
namespace Bd
open PySem PySem.Spec PyProof.Rows L2 HT
theorem fun_ne {K : PySem.W.Frag} {x q x' q' : Str} {st st' : Stmt} {f f' : Addr} {fd fd' : FuncData} (F : Fun K x q st f fd) (F' : Fun K x' q' st' f' fd') (h : x ≠ x') : f ≠ f' := by
  intro e
  subst e
  obtain ⟨oc, od, kV, doc, pm, an, cdv, ct, osl, rfl, lk, _⟩ := F.ex
  obtain ⟨oc', od', kV', doc', pm', an', cdv', ct', osl', rfl, lk', _⟩ := F'.ex
  rw [lk] at lk'
  have e := Option.some.inj lk'
  have e2 := congrArg Obj.data e
  injection e2 with e3
  exact h (congrArg FuncData.name e3)
theorem held_sel {P : Program} {w : World} {K : PySem.W.Frag} {mg : Str → Option Value} {base : Heap} {fm fl : Addr} (h1 : HeldG P w K mg base 2 fm (spMost K)) (h2 : HeldG P w K mg base 2 fl (spLeast K)) : ∀ f sp, selF K fm fl f = some sp → HeldG P w K mg base 2 f sp := by
  intro f sp h
  unfold selF at h
  split at h
  · rename_i e
    subst e
    cases h
    exact h1
  · split at h
    · rename_i e
      subst e
      cases h
      exact h2
    · cases h
end Bd
namespace Bd
open PySem PySem.Spec PyProof.Rows L2 HT
theorem all_mk {P : Program} {w : World} {K : PySem.W.Frag} {h : Heap} {mg : Str → Option Value} {fa : Addr} (X : K.In h) (G : h.Ns mainGlobals mg) (hfa : mg "law" = some (.ref fa))
    {f0 : Addr} {od0 an0 : Option Addr} {sl0 : Array (Option Value)} {oc0 kV0 dc0 pm0 cd0 ct0 : Value} (a0 : PySem.W.nsIn K mainGlobals "through" = some (some (.ref f0)))
    (l0 : K.lookup f0 = some ⟨oc0, od0, .func (PySem.W.fnOf "through" "through" (defArgs sThrough) (defBody sThrough) (defScope sThrough) .none kV0 dc0 pm0 an0 cd0 ct0), sl0⟩) (c0 : PySem.W.codeIn K cd0 "through" = true) (k0 : PySem.W.keepIn K (.ref f0) = true)
    {f1 : Addr} {od1 an1 : Option Addr} {sl1 : Array (Option Value)} {oc1 kV1 dc1 pm1 cd1 ct1 : Value} (a1 : PySem.W.nsIn K mainGlobals "go" = some (some (.ref f1)))
    (l1 : K.lookup f1 = some ⟨oc1, od1, .func (PySem.W.fnOf "go" "go" (defArgs sGo) (defBody sGo) (defScope sGo) .none kV1 dc1 pm1 an1 cd1 ct1), sl1⟩) (c1 : PySem.W.codeIn K cd1 "go" = true) (k1 : PySem.W.keepIn K (.ref f1) = true)
    {f2 : Addr} {od2 an2 : Option Addr} {sl2 : Array (Option Value)} {oc2 kV2 dc2 pm2 cd2 ct2 : Value} (a2 : PySem.W.nsIn K mainGlobals "most_out" = some (some (.ref f2)))
    (l2 : K.lookup f2 = some ⟨oc2, od2, .func (PySem.W.fnOf "most_out" "most_out" (defArgs sMostOut) (defBody sMostOut) (defScope sMostOut) .none kV2 dc2 pm2 an2 cd2 ct2), sl2⟩) (c2 : PySem.W.codeIn K cd2 "most_out" = true) (k2 : PySem.W.keepIn K (.ref f2) = true)
    {f3 : Addr} {od3 an3 : Option Addr} {sl3 : Array (Option Value)} {oc3 kV3 dc3 pm3 cd3 ct3 : Value} (a3 : PySem.W.nsIn K mainGlobals "least_out" = some (some (.ref f3)))
    (l3 : K.lookup f3 = some ⟨oc3, od3, .func (PySem.W.fnOf "least_out" "least_out" (defArgs sLeastOut) (defBody sLeastOut) (defScope sLeastOut) .none kV3 dc3 pm3 an3 cd3 ct3), sl3⟩) (c3 : PySem.W.codeIn K cd3 "least_out" = true) (k3 : PySem.W.keepIn K (.ref f3) = true)
    {f4 : Addr} {od4 an4 : Option Addr} {sl4 : Array (Option Value)} {oc4 kV4 dc4 pm4 cd4 ct4 : Value} (a4 : PySem.W.nsIn K mainGlobals "wrong_at_first" = some (some (.ref f4)))
    (l4 : K.lookup f4 = some ⟨oc4, od4, .func (PySem.W.fnOf "wrong_at_first" "wrong_at_first" (defArgs sWrongAtFirst) (defBody sWrongAtFirst) (defScope sWrongAtFirst) .none kV4 dc4 pm4 an4 cd4 ct4), sl4⟩) (c4 : PySem.W.codeIn K cd4 "wrong_at_first" = true) (k4 : PySem.W.keepIn K (.ref f4) = true)
    {f5 : Addr} {od5 an5 : Option Addr} {sl5 : Array (Option Value)} {oc5 kV5 dc5 pm5 cd5 ct5 : Value} (a5 : PySem.W.nsIn K mainGlobals "_most_by" = some (some (.ref f5)))
    (l5 : K.lookup f5 = some ⟨oc5, od5, .func (PySem.W.fnOf "_most_by" "_most_by" (defArgs sMostBy) (defBody sMostBy) (defScope sMostBy) .none kV5 dc5 pm5 an5 cd5 ct5), sl5⟩) (c5 : PySem.W.codeIn K cd5 "_most_by" = true) (k5 : PySem.W.keepIn K (.ref f5) = true)
    {f6 : Addr} {od6 an6 : Option Addr} {sl6 : Array (Option Value)} {oc6 kV6 dc6 pm6 cd6 ct6 : Value} (a6 : PySem.W.nsIn K mainGlobals "_least_by" = some (some (.ref f6)))
    (l6 : K.lookup f6 = some ⟨oc6, od6, .func (PySem.W.fnOf "_least_by" "_least_by" (defArgs sLeastBy) (defBody sLeastBy) (defScope sLeastBy) .none kV6 dc6 pm6 an6 cd6 ct6), sl6⟩) (c6 : PySem.W.codeIn K cd6 "_least_by" = true) (k6 : PySem.W.keepIn K (.ref f6) = true)
    {f7 : Addr} {od7 an7 : Option Addr} {sl7 : Array (Option Value)} {oc7 kV7 dc7 pm7 cd7 ct7 : Value} (a7 : PySem.W.nsIn K mainGlobals "_had_and_met" = some (some (.ref f7)))
    (l7 : K.lookup f7 = some ⟨oc7, od7, .func (PySem.W.fnOf "_had_and_met" "_had_and_met" (defArgs sHadAndMet) (defBody sHadAndMet) (defScope sHadAndMet) .none kV7 dc7 pm7 an7 cd7 ct7), sl7⟩) (c7 : PySem.W.codeIn K cd7 "_had_and_met" = true) (k7 : PySem.W.keepIn K (.ref f7) = true)
    {f8 : Addr} {od8 an8 : Option Addr} {sl8 : Array (Option Value)} {oc8 kV8 dc8 pm8 cd8 ct8 : Value} (a8 : PySem.W.nsIn K mainGlobals "_looks_at" = some (some (.ref f8)))
    (l8 : K.lookup f8 = some ⟨oc8, od8, .func (PySem.W.fnOf "_looks_at" "_looks_at" (defArgs sLooksAt) (defBody sLooksAt) (defScope sLooksAt) .none kV8 dc8 pm8 an8 cd8 ct8), sl8⟩) (c8 : PySem.W.codeIn K cd8 "_looks_at" = true) (k8 : PySem.W.keepIn K (.ref f8) = true)
    {f9 : Addr} {od9 an9 : Option Addr} {sl9 : Array (Option Value)} {oc9 kV9 dc9 pm9 cd9 ct9 : Value} (a9 : PySem.W.nsIn K mainGlobals "story_right" = some (some (.ref f9)))
    (l9 : K.lookup f9 = some ⟨oc9, od9, .func (PySem.W.fnOf "story_right" "story_right" (defArgs sStoryRight) (defBody sStoryRight) (defScope sStoryRight) .none kV9 dc9 pm9 an9 cd9 ct9), sl9⟩) (c9 : PySem.W.codeIn K cd9 "story_right" = true) (k9 : PySem.W.keepIn K (.ref f9) = true)
    {f10 : Addr} {od10 an10 : Option Addr} {sl10 : Array (Option Value)} {oc10 kV10 dc10 pm10 cd10 ct10 : Value} (a10 : PySem.W.nsIn K mainGlobals "paper_right" = some (some (.ref f10)))
    (l10 : K.lookup f10 = some ⟨oc10, od10, .func (PySem.W.fnOf "paper_right" "paper_right" (defArgs sPaperRight) (defBody sPaperRight) (defScope sPaperRight) .none kV10 dc10 pm10 an10 cd10 ct10), sl10⟩) (c10 : PySem.W.codeIn K cd10 "paper_right" = true) (k10 : PySem.W.keepIn K (.ref f10) = true)
    {f11 : Addr} {od11 an11 : Option Addr} {sl11 : Array (Option Value)} {oc11 kV11 dc11 pm11 cd11 ct11 : Value} (a11 : PySem.W.nsIn K mainGlobals "_look_right" = some (some (.ref f11)))
    (l11 : K.lookup f11 = some ⟨oc11, od11, .func (PySem.W.fnOf "_look_right" "_look_right" (defArgs sLookRight) (defBody sLookRight) (defScope sLookRight) .none kV11 dc11 pm11 an11 cd11 ct11), sl11⟩) (c11 : PySem.W.codeIn K cd11 "_look_right" = true) (k11 : PySem.W.keepIn K (.ref f11) = true)
    {f12 : Addr} {od12 an12 : Option Addr} {sl12 : Array (Option Value)} {oc12 kV12 dc12 pm12 cd12 ct12 : Value} (a12 : PySem.W.nsIn K mainGlobals "_are_stretches" = some (some (.ref f12)))
    (l12 : K.lookup f12 = some ⟨oc12, od12, .func (PySem.W.fnOf "_are_stretches" "_are_stretches" (defArgs sAreStretches) (defBody sAreStretches) (defScope sAreStretches) .none kV12 dc12 pm12 an12 cd12 ct12), sl12⟩) (c12 : PySem.W.codeIn K cd12 "_are_stretches" = true) (k12 : PySem.W.keepIn K (.ref f12) = true)
    {f13 : Addr} {od13 an13 : Option Addr} {sl13 : Array (Option Value)} {oc13 kV13 dc13 pm13 cd13 ct13 : Value} (a13 : PySem.W.nsIn K mainGlobals "_within" = some (some (.ref f13)))
    (l13 : K.lookup f13 = some ⟨oc13, od13, .func (PySem.W.fnOf "_within" "_within" (defArgs sWithin) (defBody sWithin) (defScope sWithin) .none kV13 dc13 pm13 an13 cd13 ct13), sl13⟩) (c13 : PySem.W.codeIn K cd13 "_within" = true) (k13 : PySem.W.keepIn K (.ref f13) = true)
    {f14 : Addr} {od14 an14 : Option Addr} {sl14 : Array (Option Value)} {oc14 kV14 dc14 pm14 cd14 ct14 : Value} (a14 : PySem.W.nsIn K mainGlobals "_between" = some (some (.ref f14)))
    (l14 : K.lookup f14 = some ⟨oc14, od14, .func (PySem.W.fnOf "_between" "_between" (defArgs sBetween) (defBody sBetween) (defScope sBetween) .none kV14 dc14 pm14 an14 cd14 ct14), sl14⟩) (c14 : PySem.W.codeIn K cd14 "_between" = true) (k14 : PySem.W.keepIn K (.ref f14) = true)
    {f15 : Addr} {od15 an15 : Option Addr} {sl15 : Array (Option Value)} {oc15 kV15 dc15 pm15 cd15 ct15 : Value} (a15 : PySem.W.nsIn K mainGlobals "_law_jug" = some (some (.ref f15)))
    (l15 : K.lookup f15 = some ⟨oc15, od15, .func (PySem.W.fnOf "_law_jug" "_law_jug" (defArgs sLawJug) (defBody sLawJug) (defScope sLawJug) .none kV15 dc15 pm15 an15 cd15 ct15), sl15⟩) (c15 : PySem.W.codeIn K cd15 "_law_jug" = true) (k15 : PySem.W.keepIn K (.ref f15) = true)
    {f16 : Addr} {od16 an16 : Option Addr} {sl16 : Array (Option Value)} {oc16 kV16 dc16 pm16 cd16 ct16 : Value} (a16 : PySem.W.nsIn K mainGlobals "_law_dip" = some (some (.ref f16)))
    (l16 : K.lookup f16 = some ⟨oc16, od16, .func (PySem.W.fnOf "_law_dip" "_law_dip" (defArgs sLawDip) (defBody sLawDip) (defScope sLawDip) .none kV16 dc16 pm16 an16 cd16 ct16), sl16⟩) (c16 : PySem.W.codeIn K cd16 "_law_dip" = true) (k16 : PySem.W.keepIn K (.ref f16) = true)
    {f17 : Addr} {od17 an17 : Option Addr} {sl17 : Array (Option Value)} {oc17 kV17 dc17 pm17 cd17 ct17 : Value} (a17 : PySem.W.nsIn K mainGlobals "_law_house" = some (some (.ref f17)))
    (l17 : K.lookup f17 = some ⟨oc17, od17, .func (PySem.W.fnOf "_law_house" "_law_house" (defArgs sLawHouse) (defBody sLawHouse) (defScope sLawHouse) .none kV17 dc17 pm17 an17 cd17 ct17), sl17⟩) (c17 : PySem.W.codeIn K cd17 "_law_house" = true) (k17 : PySem.W.keepIn K (.ref f17) = true)
    {f18 : Addr} {od18 an18 : Option Addr} {sl18 : Array (Option Value)} {oc18 kV18 dc18 pm18 cd18 ct18 : Value} (a18 : PySem.W.nsIn K mainGlobals "_law_folk" = some (some (.ref f18)))
    (l18 : K.lookup f18 = some ⟨oc18, od18, .func (PySem.W.fnOf "_law_folk" "_law_folk" (defArgs sLawFolk) (defBody sLawFolk) (defScope sLawFolk) .none kV18 dc18 pm18 an18 cd18 ct18), sl18⟩) (c18 : PySem.W.codeIn K cd18 "_law_folk" = true) (k18 : PySem.W.keepIn K (.ref f18) = true)
    {f19 : Addr} {od19 an19 : Option Addr} {sl19 : Array (Option Value)} {oc19 kV19 dc19 pm19 cd19 ct19 : Value} (a19 : PySem.W.nsIn K mainGlobals "_law_gone" = some (some (.ref f19)))
    (l19 : K.lookup f19 = some ⟨oc19, od19, .func (PySem.W.fnOf "_law_gone" "_law_gone" (defArgs sLawGone) (defBody sLawGone) (defScope sLawGone) .none kV19 dc19 pm19 an19 cd19 ct19), sl19⟩) (c19 : PySem.W.codeIn K cd19 "_law_gone" = true) (k19 : PySem.W.keepIn K (.ref f19) = true)
    {f20 : Addr} {od20 an20 : Option Addr} {sl20 : Array (Option Value)} {oc20 kV20 dc20 pm20 cd20 ct20 : Value} (a20 : PySem.W.nsIn K mainGlobals "_law_hidden" = some (some (.ref f20)))
    (l20 : K.lookup f20 = some ⟨oc20, od20, .func (PySem.W.fnOf "_law_hidden" "_law_hidden" (defArgs sLawHidden) (defBody sLawHidden) (defScope sLawHidden) .none kV20 dc20 pm20 an20 cd20 ct20), sl20⟩) (c20 : PySem.W.codeIn K cd20 "_law_hidden" = true) (k20 : PySem.W.keepIn K (.ref f20) = true)
    {f21 : Addr} {od21 an21 : Option Addr} {sl21 : Array (Option Value)} {oc21 kV21 dc21 pm21 cd21 ct21 : Value} (a21 : PySem.W.nsIn K mainGlobals "_law_look" = some (some (.ref f21)))
    (l21 : K.lookup f21 = some ⟨oc21, od21, .func (PySem.W.fnOf "_law_look" "_law_look" (defArgs sLawLook) (defBody sLawLook) (defScope sLawLook) .none kV21 dc21 pm21 an21 cd21 ct21), sl21⟩) (c21 : PySem.W.codeIn K cd21 "_law_look" = true) (k21 : PySem.W.keepIn K (.ref f21) = true)
    {f22 : Addr} {od22 an22 : Option Addr} {sl22 : Array (Option Value)} {oc22 kV22 dc22 pm22 cd22 ct22 : Value} (a22 : PySem.W.nsIn K mainGlobals "_law_stands" = some (some (.ref f22)))
    (l22 : K.lookup f22 = some ⟨oc22, od22, .func (PySem.W.fnOf "_law_stands" "_law_stands" (defArgs sLawStands) (defBody sLawStands) (defScope sLawStands) .none kV22 dc22 pm22 an22 cd22 ct22), sl22⟩) (c22 : PySem.W.codeIn K cd22 "_law_stands" = true) (k22 : PySem.W.keepIn K (.ref f22) = true)
    {f23 : Addr} {od23 an23 : Option Addr} {sl23 : Array (Option Value)} {oc23 kV23 dc23 pm23 cd23 ct23 : Value} (a23 : PySem.W.nsIn K mainGlobals "_law_outs" = some (some (.ref f23)))
    (l23 : K.lookup f23 = some ⟨oc23, od23, .func (PySem.W.fnOf "_law_outs" "_law_outs" (defArgs sLawOuts) (defBody sLawOuts) (defScope sLawOuts) .none kV23 dc23 pm23 an23 cd23 ct23), sl23⟩) (c23 : PySem.W.codeIn K cd23 "_law_outs" = true) (k23 : PySem.W.keepIn K (.ref f23) = true)
    {f24 : Addr} {od24 an24 : Option Addr} {sl24 : Array (Option Value)} {oc24 kV24 dc24 pm24 cd24 ct24 : Value} (a24 : PySem.W.nsIn K mainGlobals "_law_are_stretches" = some (some (.ref f24)))
    (l24 : K.lookup f24 = some ⟨oc24, od24, .func (PySem.W.fnOf "_law_are_stretches" "_law_are_stretches" (defArgs sLawAreStretches) (defBody sLawAreStretches) (defScope sLawAreStretches) .none kV24 dc24 pm24 an24 cd24 ct24), sl24⟩) (c24 : PySem.W.codeIn K cd24 "_law_are_stretches" = true) (k24 : PySem.W.keepIn K (.ref f24) = true)
    {f25 : Addr} {od25 an25 : Option Addr} {sl25 : Array (Option Value)} {oc25 kV25 dc25 pm25 cd25 ct25 : Value} (a25 : PySem.W.nsIn K mainGlobals "_law_looked_wrong" = some (some (.ref f25)))
    (l25 : K.lookup f25 = some ⟨oc25, od25, .func (PySem.W.fnOf "_law_looked_wrong" "_law_looked_wrong" (defArgs sLawLookedWrong) (defBody sLawLookedWrong) (defScope sLawLookedWrong) .none kV25 dc25 pm25 an25 cd25 ct25), sl25⟩) (c25 : PySem.W.codeIn K cd25 "_law_looked_wrong" = true) (k25 : PySem.W.keepIn K (.ref f25) = true)
    {f26 : Addr} {od26 an26 : Option Addr} {sl26 : Array (Option Value)} {oc26 kV26 dc26 pm26 cd26 ct26 : Value} (a26 : PySem.W.nsIn K mainGlobals "_law_shown" = some (some (.ref f26)))
    (l26 : K.lookup f26 = some ⟨oc26, od26, .func (PySem.W.fnOf "_law_shown" "_law_shown" (defArgs sLawShown) (defBody sLawShown) (defScope sLawShown) .none kV26 dc26 pm26 an26 cd26 ct26), sl26⟩) (c26 : PySem.W.codeIn K cd26 "_law_shown" = true) (k26 : PySem.W.keepIn K (.ref f26) = true)
    {f27 : Addr} {od27 an27 : Option Addr} {sl27 : Array (Option Value)} {oc27 kV27 dc27 pm27 cd27 ct27 : Value} (a27 : PySem.W.nsIn K mainGlobals "_law_seen_right" = some (some (.ref f27)))
    (l27 : K.lookup f27 = some ⟨oc27, od27, .func (PySem.W.fnOf "_law_seen_right" "_law_seen_right" (defArgs sLawSeenRight) (defBody sLawSeenRight) (defScope sLawSeenRight) .none kV27 dc27 pm27 an27 cd27 ct27), sl27⟩) (c27 : PySem.W.codeIn K cd27 "_law_seen_right" = true) (k27 : PySem.W.keepIn K (.ref f27) = true)
    {f28 : Addr} {od28 an28 : Option Addr} {sl28 : Array (Option Value)} {oc28 kV28 dc28 pm28 cd28 ct28 : Value} (a28 : PySem.W.nsIn K mainGlobals "_law_late" = some (some (.ref f28)))
    (l28 : K.lookup f28 = some ⟨oc28, od28, .func (PySem.W.fnOf "_law_late" "_law_late" (defArgs sLawLate) (defBody sLawLate) (defScope sLawLate) .none kV28 dc28 pm28 an28 cd28 ct28), sl28⟩) (c28 : PySem.W.codeIn K cd28 "_law_late" = true) (k28 : PySem.W.keepIn K (.ref f28) = true)
    {f29 : Addr} {od29 an29 : Option Addr} {sl29 : Array (Option Value)} {oc29 kV29 dc29 pm29 cd29 ct29 : Value} (a29 : PySem.W.nsIn K mainGlobals "_law_track_bent" = some (some (.ref f29)))
    (l29 : K.lookup f29 = some ⟨oc29, od29, .func (PySem.W.fnOf "_law_track_bent" "_law_track_bent" (defArgs sLawTrackBent) (defBody sLawTrackBent) (defScope sLawTrackBent) .none kV29 dc29 pm29 an29 cd29 ct29), sl29⟩) (c29 : PySem.W.codeIn K cd29 "_law_track_bent" = true) (k29 : PySem.W.keepIn K (.ref f29) = true)
    {f30 : Addr} {od30 an30 : Option Addr} {sl30 : Array (Option Value)} {oc30 kV30 dc30 pm30 cd30 ct30 : Value} (a30 : PySem.W.nsIn K mainGlobals "_law_drawn" = some (some (.ref f30)))
    (l30 : K.lookup f30 = some ⟨oc30, od30, .func (PySem.W.fnOf "_law_drawn" "_law_drawn" (defArgs sLawDrawn) (defBody sLawDrawn) (defScope sLawDrawn) .none kV30 dc30 pm30 an30 cd30 ct30), sl30⟩) (c30 : PySem.W.codeIn K cd30 "_law_drawn" = true) (k30 : PySem.W.keepIn K (.ref f30) = true)
    {f31 : Addr} {od31 an31 : Option Addr} {sl31 : Array (Option Value)} {oc31 kV31 dc31 pm31 cd31 ct31 : Value} (a31 : PySem.W.nsIn K mainGlobals "_law_right" = some (some (.ref f31)))
    (l31 : K.lookup f31 = some ⟨oc31, od31, .func (PySem.W.fnOf "_law_right" "_law_right" (defArgs sLawRight) (defBody sLawRight) (defScope sLawRight) .none kV31 dc31 pm31 an31 cd31 ct31), sl31⟩) (c31 : PySem.W.codeIn K cd31 "_law_right" = true) (k31 : PySem.W.keepIn K (.ref f31) = true)
    {f32 : Addr} {od32 an32 : Option Addr} {sl32 : Array (Option Value)} {oc32 kV32 dc32 pm32 cd32 ct32 : Value} (a32 : PySem.W.nsIn K mainGlobals "law" = some (some (.ref f32)))
    (l32 : K.lookup f32 = some ⟨oc32, od32, .func (PySem.W.fnOf "law" "law" (defArgs sLaw) (defBody sLaw) (defScope sLaw) .none kV32 dc32 pm32 an32 cd32 ct32), sl32⟩) (c32 : PySem.W.codeIn K cd32 "law" = true) (k32 : PySem.W.keepIn K (.ref f32) = true)
    (z_len : PySem.W.nsIn K mainGlobals "len" = some none)
    (z_max : PySem.W.nsIn K mainGlobals "max" = some none)
    (z_min : PySem.W.nsIn K mainGlobals "min" = some none)
    (z_range : PySem.W.nsIn K mainGlobals "range" = some none)
    (z_int : PySem.W.nsIn K mainGlobals "int" = some none)
    (z_list : PySem.W.nsIn K mainGlobals "list" = some none)
    (z_zip : PySem.W.nsIn K mainGlobals "zip" = some none)
    (z_all : PySem.W.nsIn K mainGlobals "all" = some none)
    (z_any : PySem.W.nsIn K mainGlobals "any" = some none)
    (z_sum : PySem.W.nsIn K mainGlobals "sum" = some none)
    (z_enumerate : PySem.W.nsIn K mainGlobals "enumerate" = some none)
    (z_sorted : PySem.W.nsIn K mainGlobals "sorted" = some none)
    : ∃ fd : FuncData, (∀ (s : Shared) (v : Value), BindsTo s fd ⟨[v], []⟩ [("script", v)]) ∧ ∀ base : Heap, K.In base → base.Ns mainGlobals mg → FnG P w K mg base 6 fa fd ["script"] (spLaw K) := by
  have e := hfa.symm.trans (PySem.W.mg_of X G a32)
  cases e
  have F_through := fun_mk (st := sThrough) l0 c0 k0
  have b_through := F_through.binds (ps := ["house", "door", "way"]) fun _ _ _ _ _ _ us hl => match us, hl with | [_, _, _], _ => rfl
  have g_through := PySem.W.mg_of X G a0
  have F_go := fun_mk (st := sGo) l1 c1 k1
  have b_go := F_go.binds (ps := ["house", "numbers", "door", "way"]) fun _ _ _ _ _ _ us hl => match us, hl with | [_, _, _, _], _ => rfl
  have g_go := PySem.W.mg_of X G a1
  have F_most_out := fun_mk (st := sMostOut) l2 c2 k2
  have b_most_out := F_most_out.binds (ps := ["house", "begin", "tape", "room", "moment"]) fun _ _ _ _ _ _ us hl => match us, hl with | [_, _, _, _, _], _ => rfl
  have g_most_out := PySem.W.mg_of X G a2
  have F_least_out := fun_mk (st := sLeastOut) l3 c3 k3
  have b_least_out := F_least_out.binds (ps := ["house", "begin", "tape", "room", "moment"]) fun _ _ _ _ _ _ us hl => match us, hl with | [_, _, _, _, _], _ => rfl
  have g_least_out := PySem.W.mg_of X G a3
  have F_wrong_at_first := fun_mk (st := sWrongAtFirst) l4 c4 k4
  have b_wrong_at_first := F_wrong_at_first.binds (ps := ["begin", "tape"]) fun _ _ _ _ _ _ us hl => match us, hl with | [_, _], _ => rfl
  have g_wrong_at_first := PySem.W.mg_of X G a4
  have F__most_by := fun_mk (st := sMostBy) l5 c5 k5
  have b__most_by := F__most_by.binds (ps := ["both", "least"]) fun _ _ _ _ _ _ us hl => match us, hl with | [_, _], _ => rfl
  have g__most_by := PySem.W.mg_of X G a5
  have F__least_by := fun_mk (st := sLeastBy) l6 c6 k6
  have b__least_by := F__least_by.binds (ps := ["both", "most"]) fun _ _ _ _ _ _ us hl => match us, hl with | [_, _], _ => rfl
  have g__least_by := PySem.W.mg_of X G a6
  have F__had_and_met := fun_mk (st := sHadAndMet) l7 c7 k7
  have b__had_and_met := F__had_and_met.binds (ps := ["house", "begin", "tape", "room", "moment"]) fun _ _ _ _ _ _ us hl => match us, hl with | [_, _, _, _, _], _ => rfl
  have g__had_and_met := PySem.W.mg_of X G a7
  have F__looks_at := fun_mk (st := sLooksAt) l8 c8 k8
  have b__looks_at := F__looks_at.binds (ps := ["tape", "room", "moment"]) fun _ _ _ _ _ _ us hl => match us, hl with | [_, _, _], _ => rfl
  have g__looks_at := PySem.W.mg_of X G a8
  have F_story_right := fun_mk (st := sStoryRight) l9 c9 k9
  have b_story_right := F_story_right.binds (ps := ["house", "begin", "tape", "ways"]) fun _ _ _ _ _ _ us hl => match us, hl with | [_, _, _, _], _ => rfl
  have g_story_right := PySem.W.mg_of X G a9
  have F_paper_right := fun_mk (st := sPaperRight) l10 c10 k10
  have b_paper_right := F_paper_right.binds (ps := ["house", "begin", "tape", "paper"]) fun _ _ _ _ _ _ us hl => match us, hl with | [_, _, _, _], _ => rfl
  have g_paper_right := PySem.W.mg_of X G a10
  have F__look_right := fun_mk (st := sLookRight) l11 c11 k11
  have b__look_right := F__look_right.binds (ps := ["house", "begin", "tape", "moment", "room"]) fun _ _ _ _ _ _ us hl => match us, hl with | [_, _, _, _, _], _ => rfl
  have g__look_right := PySem.W.mg_of X G a11
  have F__are_stretches := fun_mk (st := sAreStretches) l12 c12 k12
  have b__are_stretches := F__are_stretches.binds (ps := ["house", "tape", "rows"]) fun _ _ _ _ _ _ us hl => match us, hl with | [_, _, _], _ => rfl
  have g__are_stretches := PySem.W.mg_of X G a12
  have F__within := fun_mk (st := sWithin) l13 c13 k13
  have b__within := F__within.binds (ps := ["house", "tape", "stretches"]) fun _ _ _ _ _ _ us hl => match us, hl with | [_, _, _], _ => rfl
  have g__within := PySem.W.mg_of X G a13
  have F__between := fun_mk (st := sBetween) l14 c14 k14
  have b__between := F__between.binds (ps := ["house", "begin", "tape", "stretches", "out_by_last", "out_ahead"]) fun _ _ _ _ _ _ us hl => match us, hl with | [_, _, _, _, _, _], _ => rfl
  have g__between := PySem.W.mg_of X G a14
  have F__law_jug := fun_mk (st := sLawJug) l15 c15 k15
  have b__law_jug := F__law_jug.binds (ps := ["script", "k"]) fun _ _ _ _ _ _ us hl => match us, hl with | [_, _], _ => rfl
  have g__law_jug := PySem.W.mg_of X G a15
  have F__law_dip := fun_mk (st := sLawDip) l16 c16 k16
  have b__law_dip := F__law_dip.binds (ps := ["jug", "many"]) fun _ _ _ _ _ _ us hl => match us, hl with | [_, _], _ => rfl
  have g__law_dip := PySem.W.mg_of X G a16
  have F__law_house := fun_mk (st := sLawHouse) l17 c17 k17
  have b__law_house := F__law_house.binds (ps := ["jug", "most", "more"]) fun _ _ _ _ _ _ us hl => match us, hl with | [_, _, _], _ => rfl
  have g__law_house := PySem.W.mg_of X G a17
  have F__law_folk := fun_mk (st := sLawFolk) l18 c18 k18
  have b__law_folk := F__law_folk.binds (ps := ["jug", "home"]) fun _ _ _ _ _ _ us hl => match us, hl with | [_, _], _ => rfl
  have g__law_folk := PySem.W.mg_of X G a18
  have F__law_gone := fun_mk (st := sLawGone) l19 c19 k19
  have b__law_gone := F__law_gone.binds (ps := ["jug", "home", "start", "most"]) fun _ _ _ _ _ _ us hl => match us, hl with | [_, _, _, _], _ => rfl
  have g__law_gone := PySem.W.mg_of X G a19
  have F__law_hidden := fun_mk (st := sLawHidden) l20 c20 k20
  have b__law_hidden := F__law_hidden.binds (ps := ["jug", "moves"]) fun _ _ _ _ _ _ us hl => match us, hl with | [_, _], _ => rfl
  have g__law_hidden := PySem.W.mg_of X G a20
  have F__law_look := fun_mk (st := sLawLook) l21 c21 k21
  have b__law_look := F__law_look.binds (ps := ["jug", "home", "rows"]) fun _ _ _ _ _ _ us hl => match us, hl with | [_, _, _], _ => rfl
  have g__law_look := PySem.W.mg_of X G a21
  have F__law_stands := fun_mk (st := sLawStands) l22 c22 k22
  have b__law_stands := F__law_stands.binds (ps := ["home", "start", "reel", "track"]) fun _ _ _ _ _ _ us hl => match us, hl with | [_, _, _, _], _ => rfl
  have g__law_stands := PySem.W.mg_of X G a22
  have F__law_outs := fun_mk (st := sLawOuts) l23 c23 k23
  have b__law_outs := F__law_outs.binds (ps := ["home", "start", "reel", "spot", "when"]) fun _ _ _ _ _ _ us hl => match us, hl with | [_, _, _, _, _], _ => rfl
  have g__law_outs := PySem.W.mg_of X G a23
  have F__law_are_stretches := fun_mk (st := sLawAreStretches) l24 c24 k24
  have b__law_are_stretches := F__law_are_stretches.binds (ps := ["home", "reel", "rows"]) fun _ _ _ _ _ _ us hl => match us, hl with | [_, _, _], _ => rfl
  have g__law_are_stretches := PySem.W.mg_of X G a24
  have F__law_looked_wrong := fun_mk (st := sLawLookedWrong) l25 c25 k25
  have b__law_looked_wrong := F__law_looked_wrong.binds (ps := ["home", "start", "reel", "when", "spot"]) fun _ _ _ _ _ _ us hl => match us, hl with | [_, _, _, _, _], _ => rfl
  have g__law_looked_wrong := PySem.W.mg_of X G a25
  have F__law_shown := fun_mk (st := sLawShown) l26 c26 k26
  have b__law_shown := F__law_shown.binds (ps := ["home", "start", "reel", "sheet"]) fun _ _ _ _ _ _ us hl => match us, hl with | [_, _, _, _], _ => rfl
  have g__law_shown := PySem.W.mg_of X G a26
  have F__law_seen_right := fun_mk (st := sLawSeenRight) l27 c27 k27
  have b__law_seen_right := F__law_seen_right.binds (ps := ["jug", "home", "rows"]) fun _ _ _ _ _ _ us hl => match us, hl with | [_, _, _], _ => rfl
  have g__law_seen_right := PySem.W.mg_of X G a27
  have F__law_late := fun_mk (st := sLawLate) l28 c28 k28
  have b__law_late := F__law_late.binds (ps := ["jug", "many"]) fun _ _ _ _ _ _ us hl => match us, hl with | [_, _], _ => rfl
  have g__law_late := PySem.W.mg_of X G a28
  have F__law_track_bent := fun_mk (st := sLawTrackBent) l29 c29 k29
  have b__law_track_bent := F__law_track_bent.binds (ps := ["jug", "track"]) fun _ _ _ _ _ _ us hl => match us, hl with | [_, _], _ => rfl
  have g__law_track_bent := PySem.W.mg_of X G a29
  have F__law_drawn := fun_mk (st := sLawDrawn) l30 c30 k30
  have b__law_drawn := F__law_drawn.binds (ps := ["jug", "home", "many"]) fun _ _ _ _ _ _ us hl => match us, hl with | [_, _, _], _ => rfl
  have g__law_drawn := PySem.W.mg_of X G a30
  have F__law_right := fun_mk (st := sLawRight) l31 c31 k31
  have b__law_right := F__law_right.binds (ps := ["jug", "home", "start", "reel", "tracks"]) fun _ _ _ _ _ _ us hl => match us, hl with | [_, _, _, _, _], _ => rfl
  have g__law_right := PySem.W.mg_of X G a31
  have F_law := fun_mk (st := sLaw) l32 c32 k32
  have b_law := F_law.binds (ps := ["script"]) fun _ _ _ _ _ _ us hl => match us, hl with | [_], _ => rfl
  have g_law := PySem.W.mg_of X G a32
  have m_len := PySem.W.mg_none_of X G z_len
  have m_max := PySem.W.mg_none_of X G z_max
  have m_min := PySem.W.mg_none_of X G z_min
  have m_range := PySem.W.mg_none_of X G z_range
  have m_int := PySem.W.mg_none_of X G z_int
  have m_list := PySem.W.mg_none_of X G z_list
  have m_zip := PySem.W.mg_none_of X G z_zip
  have m_all := PySem.W.mg_none_of X G z_all
  have m_any := PySem.W.mg_none_of X G z_any
  have m_sum := PySem.W.mg_none_of X G z_sum
  have m_enumerate := PySem.W.mg_none_of X G z_enumerate
  have m_sorted := PySem.W.mg_none_of X G z_sorted
  refine ⟨PySem.W.fnOf "law" "law" (defArgs sLaw) (defBody sLaw) (defScope sLaw) .none kV32 dc32 pm32 an32 cd32 ct32, fun s v => .of_eq rfl, fun base _ _ => ?_⟩
  have D1 : Cg P w K mg base 1 "_law_dip" (spDip K) := ⟨_, _, _, ok_dip F__law_dip , g__law_dip, F__law_dip.kp, b__law_dip⟩
  have D2 : Cg P w K mg base 1 "_law_jug" (spJug K) := ⟨_, _, _, ok_jug F__law_jug m_len m_max, g__law_jug, F__law_jug.kp, b__law_jug⟩
  have D3 : Cg P w K mg base 1 "through" (spThrough K) := ⟨_, _, _, ok_through F_through , g_through, F_through.kp, b_through⟩
  have D4 : Cg P w K mg base 2 "go" (spGo K) := ⟨_, _, _, ok_go F_go D3, g_go, F_go.kp, b_go⟩
  have D5 : Cg P w K mg base 3 "story_right" (spStory K) := ⟨_, _, _, ok_story F_story_right D3 D4 m_len m_list m_zip m_all, g_story_right, F_story_right.kp, b_story_right⟩
  have D6 : Cg P w K mg base 1 "_had_and_met" (spHad K) := ⟨_, _, _, ok_had F__had_and_met m_len, g__had_and_met, F__had_and_met.kp, b__had_and_met⟩
  have D7 : Cg P w K mg base 1 "_looks_at" (spLooks K) := ⟨_, _, _, ok_looks F__looks_at , g__looks_at, F__looks_at.kp, b__looks_at⟩
  have DM : Cg P w K mg base 1 "_most_by" (spMostBy K) := ⟨_, _, _, ok_mostBy F__most_by , g__most_by, F__most_by.kp, b__most_by⟩
  have DL : Cg P w K mg base 1 "_least_by" (spLeastBy K) := ⟨_, _, _, ok_leastBy F__least_by , g__least_by, F__least_by.kp, b__least_by⟩
  have D8 : Cg P w K mg base 2 "most_out" (spMost K) := ⟨_, _, _, ok_most F_most_out D7 D6 DM m_max, g_most_out, F_most_out.kp, b_most_out⟩
  have D9 : Cg P w K mg base 2 "least_out" (spLeast K) := ⟨_, _, _, ok_least F_least_out D7 D6 DL m_max, g_least_out, F_least_out.kp, b_least_out⟩
  have D10 : Cg P w K mg base 1 "wrong_at_first" (spWrong K) := ⟨_, _, _, ok_wrong F_wrong_at_first , g_wrong_at_first, F_wrong_at_first.kp, b_wrong_at_first⟩
  have D11 : Cg P w K mg base 3 "_look_right" (spLookR K) := ⟨_, _, _, ok_lookR F__look_right D10 D9 D8 m_len, g__look_right, F__look_right.kp, b__look_right⟩
  have D12 : Cg P w K mg base 1 "_are_stretches" (spStr K) := ⟨_, _, _, ok_str F__are_stretches m_len m_zip, g__are_stretches, F__are_stretches.kp, b__are_stretches⟩
  have D13 : Cg P w K mg base 1 "_within" (spWithin K) := ⟨_, _, _, ok_within F__within m_enumerate m_any, g__within, F__within.kp, b__within⟩
  have hne := fun_ne F_most_out F_least_out (by decide)
  have hA := held_sel (P := P) (w := w) (K := K) (mg := mg) (base := base) ⟨_, _, ok_most F_most_out D7 D6 DM m_max, F_most_out.kp, b_most_out⟩ ⟨_, _, ok_least F_least_out D7 D6 DL m_max, F_least_out.kp, b_least_out⟩
  have D14 : Cg P w K mg base 3 "_between" (spBtw K f2 f3) := ⟨_, _, _, ok_between hne F__between hA m_sum, g__between, F__between.kp, b__between⟩
  have D15 : Cg P w K mg base 4 "paper_right" (spPaper K) := ⟨_, _, _, ok_paper F_paper_right D11 D12 D13 D14 g_most_out g_least_out m_len m_all m_any, g_paper_right, F_paper_right.kp, b_paper_right⟩
  have D16 : Cg P w K mg base 2 "_law_house" (spHouse K) := ⟨_, _, _, ok_house F__law_house D1 m_range m_int, g__law_house, F__law_house.kp, b__law_house⟩
  have D17 : Cg P w K mg base 2 "_law_folk" (spFolk K) := ⟨_, _, _, ok_folk F__law_folk D1 m_range, g__law_folk, F__law_folk.kp, b__law_folk⟩
  have D18 : Cg P w K mg base 2 "_law_gone" (spGone K) := ⟨_, _, _, ok_gone F__law_gone D1 m_range m_int m_list m_len, g__law_gone, F__law_gone.kp, b__law_gone⟩
  have D19 : Cg P w K mg base 2 "_law_hidden" (spHidden K) := ⟨_, _, _, ok_hidden F__law_hidden D1, g__law_hidden, F__law_hidden.kp, b__law_hidden⟩
  have D20 : Cg P w K mg base 2 "_law_look" (spLook K) := ⟨_, _, _, ok_look F__law_look D1 m_len, g__law_look, F__law_look.kp, b__law_look⟩
  have D21 : Cg P w K mg base 1 "_law_stands" (spStands K) := ⟨_, _, _, ok_stands F__law_stands m_len m_list m_enumerate m_min, g__law_stands, F__law_stands.kp, b__law_stands⟩
  have D22 : Cg P w K mg base 1 "_law_outs" (spOuts K) := ⟨_, _, _, ok_outs F__law_outs m_len m_max, g__law_outs, F__law_outs.kp, b__law_outs⟩
  have D23 : Cg P w K mg base 1 "_law_are_stretches" (spStr K) := ⟨_, _, _, ok_strL F__law_are_stretches m_len m_sorted m_range, g__law_are_stretches, F__law_are_stretches.kp, b__law_are_stretches⟩
  have D24 : Cg P w K mg base 2 "_law_looked_wrong" (spLookR K) := ⟨_, _, _, ok_lookedL F__law_looked_wrong D22 m_len, g__law_looked_wrong, F__law_looked_wrong.kp, b__law_looked_wrong⟩
  have D25 : Cg P w K mg base 3 "_law_shown" (spPaper K) := ⟨_, _, _, ok_shown F__law_shown D24 D23 D22 m_enumerate m_list m_int, g__law_shown, F__law_shown.kp, b__law_shown⟩
  have D26 : Cg P w K mg base 2 "_law_seen_right" (spSeen K) := ⟨_, _, _, ok_seen F__law_seen_right D1 m_len, g__law_seen_right, F__law_seen_right.kp, b__law_seen_right⟩
  have D27 : Cg P w K mg base 2 "_law_late" (spLate K) := ⟨_, _, _, ok_late F__law_late D1 m_max, g__law_late, F__law_late.kp, b__law_late⟩
  have D28 : Cg P w K mg base 3 "_law_track_bent" (spTB K) := ⟨_, _, _, ok_tb F__law_track_bent D1 D27 m_len, g__law_track_bent, F__law_track_bent.kp, b__law_track_bent⟩
  have D29 : Cg P w K mg base 3 "_law_drawn" (spDrawn K) := ⟨_, _, _, ok_drawn F__law_drawn D1 D27 m_range, g__law_drawn, F__law_drawn.kp, b__law_drawn⟩
  have D30 : Cg P w K mg base 5 "_law_right" (spRiteT K) := ⟨_, _, _, ok_rightT F__law_right D5 D21 D29 D15 D25 m_len, g__law_right, F__law_right.kp, b__law_right⟩
  exact ok_law F_law D2 D1 D16 D17 D18 D20 D26 D19 D28 D30 m_range m_max m_min m_len m_int
theorem theWalk {l : PySem.W.OpenLaw} {q : Program} {loose : List Str} {XP : (Str → Option Value) → Heap → Prop} {YP : World → Heap → Prop} {d : DefRec} {K : Params → PySem.W.Frag} (hn : l.most = some 63) (hdf : d.params.defaults = [])
    (hY : ∀ (w : World) (h : Heap), YP w h → (K w.params).In h)
    (F : ∀ (w : World) (mg : Str → Option Value) (fa : Addr) (h : Heap), (K w.params).In h → h.Ns mainGlobals mg → mg d.name = some (.ref fa) →
      ∃ fd : FuncData, (∀ (s : Shared) (u : Value), BindsTo s fd ⟨[u], []⟩ [("script", u)]) ∧ ∀ base : Heap, (K w.params).In base → base.Ns mainGlobals mg → FnG l.prog w (K w.params) mg base 6 fa fd ["script"] (spLaw (K w.params))) :
    PySem.W.WalkO q loose XP YP l.row.toRowW d [] (fun f vs => PySem.call f vs) :=
  walkG hn hdf ⟨rfl, by decide, by decide⟩ hY F fun _ _ a ns hl hS => ⟨a, ns, rfl, hS, hl, fun _ => rfl⟩
end Bd
open PySem PySem.W PyProof.Rows
set_option maxRecDepth 100000 in
set_option maxHeartbeats 0 in
theorem PySem.Challenge.cw_bothdoors_k70_whole_great_tapes_judged_holds : PySem.Challenge.rw_bothdoors_k70_whole_great_tapes_judged.Holds := by
  w_on; o_law; k_head; (case hw => w_witness2)
  k_fill
  refine Bd.theWalk (l := PySem.Challenge.rw_bothdoors_k70_whole_great_tapes_judged) rfl rfl (fun w h Y => PySem.W.kIn_of Y) ?F
  case F =>
    intro w mg fa h KX G hmg
    refine' Bd.all_mk KX G hmg ?a0 ?l0 ?c0 ?k0 ?a1 ?l1 ?c1 ?k1 ?a2 ?l2 ?c2 ?k2 ?a3 ?l3 ?c3 ?k3 ?a4 ?l4 ?c4 ?k4 ?a5 ?l5 ?c5 ?k5 ?a6 ?l6 ?c6 ?k6 ?a7 ?l7 ?c7 ?k7 ?a8 ?l8 ?c8 ?k8 ?a9 ?l9 ?c9 ?k9 ?a10 ?l10 ?c10 ?k10 ?a11 ?l11 ?c11 ?k11 ?a12 ?l12 ?c12 ?k12 ?a13 ?l13 ?c13 ?k13 ?a14 ?l14 ?c14 ?k14 ?a15 ?l15 ?c15 ?k15 ?a16 ?l16 ?c16 ?k16 ?a17 ?l17 ?c17 ?k17 ?a18 ?l18 ?c18 ?k18 ?a19 ?l19 ?c19 ?k19 ?a20 ?l20 ?c20 ?k20 ?a21 ?l21 ?c21 ?k21 ?a22 ?l22 ?c22 ?k22 ?a23 ?l23 ?c23 ?k23 ?a24 ?l24 ?c24 ?k24 ?a25 ?l25 ?c25 ?k25 ?a26 ?l26 ?c26 ?k26 ?a27 ?l27 ?c27 ?k27 ?a28 ?l28 ?c28 ?k28 ?a29 ?l29 ?c29 ?k29 ?a30 ?l30 ?c30 ?k30 ?a31 ?l31 ?c31 ?k31 ?a32 ?l32 ?c32 ?k32 ?zlen ?zmax ?zmin ?zrange ?zint ?zlist ?zzip ?zall ?zany ?zsum ?zenumerate ?zsorted
    (case a0 => k_is); (case l0 => k_is); (case c0 => k_is); (case k0 => k_is)
    (case a1 => k_is); (case l1 => k_is); (case c1 => k_is); (case k1 => k_is)
    (case a2 => k_is); (case l2 => k_is); (case c2 => k_is); (case k2 => k_is)
    (case a3 => k_is); (case l3 => k_is); (case c3 => k_is); (case k3 => k_is)
    (case a4 => k_is); (case l4 => k_is); (case c4 => k_is); (case k4 => k_is)
    (case a5 => k_is); (case l5 => k_is); (case c5 => k_is); (case k5 => k_is)
    (case a6 => k_is); (case l6 => k_is); (case c6 => k_is); (case k6 => k_is)
    (case a7 => k_is); (case l7 => k_is); (case c7 => k_is); (case k7 => k_is)
    (case a8 => k_is); (case l8 => k_is); (case c8 => k_is); (case k8 => k_is)
    (case a9 => k_is); (case l9 => k_is); (case c9 => k_is); (case k9 => k_is)
    (case a10 => k_is); (case l10 => k_is); (case c10 => k_is); (case k10 => k_is)
    (case a11 => k_is); (case l11 => k_is); (case c11 => k_is); (case k11 => k_is)
    (case a12 => k_is); (case l12 => k_is); (case c12 => k_is); (case k12 => k_is)
    (case a13 => k_is); (case l13 => k_is); (case c13 => k_is); (case k13 => k_is)
    (case a14 => k_is); (case l14 => k_is); (case c14 => k_is); (case k14 => k_is)
    (case a15 => k_is); (case l15 => k_is); (case c15 => k_is); (case k15 => k_is)
    (case a16 => k_is); (case l16 => k_is); (case c16 => k_is); (case k16 => k_is)
    (case a17 => k_is); (case l17 => k_is); (case c17 => k_is); (case k17 => k_is)
    (case a18 => k_is); (case l18 => k_is); (case c18 => k_is); (case k18 => k_is)
    (case a19 => k_is); (case l19 => k_is); (case c19 => k_is); (case k19 => k_is)
    (case a20 => k_is); (case l20 => k_is); (case c20 => k_is); (case k20 => k_is)
    (case a21 => k_is); (case l21 => k_is); (case c21 => k_is); (case k21 => k_is)
    (case a22 => k_is); (case l22 => k_is); (case c22 => k_is); (case k22 => k_is)
    (case a23 => k_is); (case l23 => k_is); (case c23 => k_is); (case k23 => k_is)
    (case a24 => k_is); (case l24 => k_is); (case c24 => k_is); (case k24 => k_is)
    (case a25 => k_is); (case l25 => k_is); (case c25 => k_is); (case k25 => k_is)
    (case a26 => k_is); (case l26 => k_is); (case c26 => k_is); (case k26 => k_is)
    (case a27 => k_is); (case l27 => k_is); (case c27 => k_is); (case k27 => k_is)
    (case a28 => k_is); (case l28 => k_is); (case c28 => k_is); (case k28 => k_is)
    (case a29 => k_is); (case l29 => k_is); (case c29 => k_is); (case k29 => k_is)
    (case a30 => k_is); (case l30 => k_is); (case c30 => k_is); (case k30 => k_is)
    (case a31 => k_is); (case l31 => k_is); (case c31 => k_is); (case k31 => k_is)
    (case a32 => k_is); (case l32 => k_is); (case c32 => k_is); (case k32 => k_is)
    (case zlen => k_is)
    (case zmax => k_is)
    (case zmin => k_is)
    (case zrange => k_is)
    (case zint => k_is)
    (case zlist => k_is)
    (case zzip => k_is)
    (case zall => k_is)
    (case zany => k_is)
    (case zsum => k_is)
    (case zenumerate => k_is)
    (case zsorted => k_is)
