import PyProof.Rows.All
import Wide.All
import OpenK.AllK
import Wide.FinOn
import HandS.ForMost
import HandS.Wide
import HandS.Style
import HandS.Codes
import HandS.Conv
import HandS.IsInst
import HandS.Zip
import HandS.Walk
import HandS.SetFor
import HandS.Strs
import HandS.NoneIn
import HandS.Deep
import PySem.Challenge.RW_bothdoors_k05_whole_lots_that_nothing_le
set_option Elab.async false
set_option linter.all false
set_option maxRecDepth 100000
set_option maxHeartbeats 2000000
namespace Bd
open PySem PySem.Spec PyProof.Rows L2 HT
section
variable {prog : Program} {w : World} {A : Around} {E : Value → Shared → Prop} {s : Shared}
theorem sliceApplied_two {sl : Addr} {i : Int} {tk : Tok} {Q : Int × Int × Nat → Shared → Prop} (hs : s.heap.IsSliceOf sl .none .none (.int i tk)) (hi : i = 1 ∨ i = -1)
    (h : Q (if i = 1 then (0, 1, 2) else (1, -1, 2)) s) : wpAny (model prog w) A (Builtin.Slice.sliceApplied (.ref sl) (pure ((2 : Nat) : Int))) Q E s := by
  obtain ⟨os, hos, hcs, hds⟩ := id hs
  unfold Builtin.Slice.sliceApplied Builtin.Slice.sliceFields
  refine wpAny_bind (wpAny_bind (wpAny_field hos hds (x := .none) rfl (wpAny_bind (wpAny_field hos hds (x := .none) rfl (wpAny_bind (wpAny_field hos hds (x := .int i tk) rfl (wpAny_pure ?_)))))))
  refine wpAny_bind (slicePart_int ?_)
  rcases hi with rfl | rfl
  · show wpAny _ _ (if ((1 : Int) == 0) = true then _ else _) _ _ s
    rw [if_neg (by decide)]
    refine wpAny_bind (slicePart_none (wpAny_bind (slicePart_none (wpAny_bind (wpAny_pure ?_)))))
    exact wpAny_pure h
  · show wpAny _ _ (if ((-1 : Int) == 0) = true then _ else _) _ _ s
    rw [if_neg (by decide)]
    refine wpAny_bind (slicePart_none (wpAny_bind (slicePart_none (wpAny_bind (wpAny_pure ?_)))))
    exact wpAny_pure h
theorem getItem_pair_step {t sl : Addr} {x y : Value} {i : Int} {tk : Tok} {Q : Value → Shared → Prop} (ht : IsTup s.heap t #[x, y]) (hs : s.heap.IsSliceOf sl .none .none (.int i tk)) (hi : i = 1 ∨ i = -1)
    (h1 : i = 1 → Q (.ref t) s) (h2 : i = -1 → Q (.ref s.heap.objs.size) { s with heap := s.heap.push { cls := .type "tuple", data := .seq #[y, x] } }) :
    wpAny (model prog w) A (getItem (.ref t) (.ref sl)) Q E s := by
  have T : s.TypeIs (.ref sl) "slice" := let ⟨o, a, b, _⟩ := hs; ⟨o, a, b⟩
  unfold getItem; try with_reducible refine wpAny_holding ?_
  first | refine wpAny_bind (wpAny_pure ?_) | (skip; skip)
  refine wpAny_bind (wpAny_sequenceKey ht.typeIs (by decide) (wpAny_bind (wpAny_callSpecial?_slot (name := Str.ofString "__getitem__") ht.typeIs PyProof.Rows.slot_tuple_getitem (wpAny_call_entry PyProof.Rows.slot_tuple_getitem ht.typeIs entry_tuple_getitem ?_ (args_tuple_getitem _ _)))))
  show wpAny _ _ (Builtin.Tuple.tupleItemsOf (.ref t) >>= fun z => _) _ _ s
  refine wpAny_bind (tupleItemsOf_ ht (wpAny_bind (wpAny_typeOf T ?_)))
  rw [if_pos (by decide)]; refine wpAny_bind (sliceApplied_two hs hi ?_)
  rcases hi with rfl | rfl
  · rw [if_pos rfl]
    show wpAny _ _ (if (((0 : Int) == 0 && (1 : Int) == 1 && (2 : Nat) == 2)) = true then _ else _) _ _ s
    rw [if_pos (by decide)]; refine wpAny_bind ?_
    show wpAny _ _ (typeOf (.ref t) >>= fun z => pure (z == .type "tuple")) _ _ s
    refine wpAny_bind (wpAny_typeOf ht.typeIs (wpAny_pure ?_)); first | rw [if_pos (by decide)] | simp only [beq_self_eq_true, if_true]
    have h := h1 rfl
    first | exact wpAny_bind (wpAny_rule (wpAny_pure ⟨_, rfl, wpAny_pure h⟩)) | exact wpAny_bind (wpAny_rule (wpAny_bind (wpAny_pure (wpAny_pure ⟨_, rfl, wpAny_pure h⟩))))
  · rw [if_neg (by decide)]
    show wpAny _ _ (if (((1 : Int) == 0 && (-1 : Int) == 1 && (2 : Nat) == 2)) = true then _ else _) _ _ s
    rw [if_neg (by decide)]
    have e : ((List.range 2).filterMap fun (m : Nat) => (#[x, y] : Array Value)[((1 : Int) + (m : Int) * (-1)).toNat]?).toArray = #[y, x] := by rfl
    have z : sizeOk (.seq (#[y, x] : Array Value)) := by show (2 : Nat) ≤ sizeLine; decide
    rw [e]; have h := h2 rfl
    first | exact wpAny_bind (m := Builtin.Tuple.tupleExact _) (wpAny_newObj_type (wpAny_pure ⟨_, rfl, wpAny_pure h⟩) z) | exact wpAny_bind (m := Builtin.Tuple.tupleExact _) (wpAny_newObj_type (wpAny_bind (wpAny_pure (wpAny_pure ⟨_, rfl, wpAny_pure h⟩))) z) | exact wpAny_bind (wpAny_bind (m := Builtin.Tuple.tupleExact _) (wpAny_newObj_type (wpAny_pure (wpAny_pure ⟨_, rfl, wpAny_pure h⟩)) z)) | exact wpAny_bind (wpAny_bind (m := Builtin.Tuple.tupleExact _) (wpAny_newObj_type (wpAny_pure ⟨_, rfl, wpAny_pure h⟩) z))
end
section
variable {X : Cx}
/-! ### own rules -/
theorem op_powW : OpR X (binaryOp .Pow) (rI (fun i j => 0 ≤ j ∧ (Builtin.Int.intBits i : Int) * j ≤ 2 ^ 27) fun i j => .int (i ^ j.toNat)) :=
  opI fun _ _ _ _ _ _ _ hc q => pow_int hc.1 hc.2 q
/-- o[i] of a list, read for o[i] op= e -/
def rGetL (K : PySem.W.Frag) : V → V → Hp → VK → Prop := fun o i H Q => ∃ p xs k v, o = .ref p ∧ i = .int k ∧ 0 ≤ k ∧ SqL K H p xs ∧ atI xs k = some v ∧ Q v H
theorem get_list : PGet X (rGetL X.K) := by
  intro pins s σ H o i ov iv Q I ro ri h
  obtain ⟨p, xs, k, z, rfl, rfl, h0, hq, he, q⟩ := h
  cases ro
  obtain ⟨t, rfl⟩ := ri
  obtain ⟨its, r, pl, hz⟩ := I.list hq
  obtain ⟨j, h1, h2, h3, h4, h5⟩ := atI_get he
  obtain ⟨w, ew, rw'⟩ := r.get h2
  have hl := r.length
  have hn := line63
  have fin : EP X pins σ Q w s := ⟨z, H, I, rw', q⟩
  have hj : k.toNat = j := by
    rw [seqIndex_of h0 h5] at h1
    exact Option.some.inj h1
  exact wpAny_getItem_list pl.isList h0 (by omega) (by rw [hj]; simpa using ew) fin
/-- t[::e], t a pair, e 1 or -1 -/
def tStepT (K : PySem.W.Frag) (te ts : TE) : TE := fun σ H Q => te σ H fun x H1 => ts σ H1 fun y H2 => ∃ i a u v, y = .int i ∧ x = .ref a ∧ SqT K H2 a [u, v] ∧ (i = 1 ∨ i = -1) ∧ (i = 1 → Q (.ref a) H2) ∧ (i = -1 → ∀ p, H2 p = none → Q (.ref p) (upd H2 p (.tup [v, u])))
theorem pe_stepT {e st : Expr} {te ts : TE} {p3 pos : Pos} (he : PE X e te) (hst : PE X st ts) : PE X (.Subscript e (.Slice none none (some st) p3) pos) (tStepT X.K te ts) := by
  refine ⟨fun pins s σ H Q I h => ?_⟩
  refine Subscript_ (thn (he.run pins s σ H _ I h) fun v s1 ⟨x, H1, I1, r1, q⟩ => ?_)
  refine wpAny_Slice (thn (po_none.run pins s1 σ H1 (fun o H2 => o = none ∧ H2 = H1) I1 ⟨rfl, rfl⟩) fun vl s2 ⟨l, H2, I2, pl, el, e2⟩ => ?_)
  subst el e2
  refine thn (po_none.run pins s2 σ H2 (fun o H3 => o = none ∧ H3 = H2) I2 ⟨rfl, rfl⟩) fun vu s3 ⟨u, H3, I3, pu, eu, e3⟩ => ?_
  subst eu e3
  rw [evalPart_some]
  refine thn (hst.run pins s3 σ H3 _ I3 q) fun vs s4 ⟨y, H4, I4, r4, i, a, ux, vx, ey, ex, hx, hi, q1, q2⟩ => ?_
  subst ey ex
  cases r1
  obtain ⟨tk, rfl⟩ := r4
  cases pl
  cases pu
  have I5 : Inv X pins σ H4 { s4 with heap := s4.heap.push { cls := .type "slice", data := .fields #[.none, .none, .int i tk] } } := I4.kept (t' := s4.toks) fun b ob q => Heap.get?_push_of_some _ q
  obtain ⟨its, r, ht, hz⟩ := I5.tuple hx
  obtain ⟨wu, wv, rfl, ru, rv⟩ : ∃ wu wv, its = [wu, wv] ∧ RelV ux wu ∧ RelV vx wv := by
    cases r with
    | cons r1 r2 =>
      cases r2 with
      | cons r3 r4 =>
        cases r4
        exact ⟨_, _, rfl, r1, r3⟩
  show wpAny (model X.prog X.w) X.A (subscriptTail e (.Slice none none (some st) p3) (.ref a) (.ref s4.heap.objs.size)) (EP X pins σ Q) X.xe { s4 with heap := s4.heap.push { cls := .type "slice", data := .fields #[.none, .none, .int i tk] } }
  refine tail_any (ops := [.ref a, .ref s4.heap.objs.size]) ht.typeIs (PyProof.Rows.slot_tuple_getitem.lookup) ?_ (by with_unfolding_all rfl)
  refine getItem_pair_step (x := wu) (y := wv) ht (Heap.IsSliceOf.new _ _ _ _) hi (fun e1 => ?_) fun e1 => ?_
  · exact ⟨.ref _, _, I5, rfl, q1 e1⟩
  · refine ⟨.ref _, _, I5.laid (t' := s4.toks) (o := .tup [vx, ux]) (fun b ob q => Heap.get?_push_of_some _ q) (Nat.le_refl _) ?_, rfl, q2 e1 _ (I5.hok.fresh (Nat.le_refl _))⟩
    exact ⟨(by show 2 ≤ sizeLine; decide), _, .cons rv (.cons ru .nil), IsTup.new _ _⟩
end
/-! ### own calls -/
/-- a def of the module, by its promise -/
structure Ca (P : Program) (w : World) (K : PySem.W.Frag) (mg : Str → Option Value) (base : Heap) (k : Nat) (x : Str) (sp : Sp) : Prop where
  ex : ∃ (f : Addr) (fd : FuncData) (ps : List Str), FnOk P w K mg base CX0 k f fd ps sp ∧ mg x = some (.ref f) ∧ PySem.W.keepIn K (.ref f) = true ∧ Binds K fd ps []
/-- .. called by names alone -/
structure Ck (P : Program) (w : World) (K : PySem.W.Frag) (mg : Str → Option Value) (base : Heap) (k : Nat) (x : Str) (ks : List Str) (gV : List V → List V) (sp : Sp) : Prop where
  ex : ∃ (f : Addr) (fd : FuncData) (ps : List Str) (g : List Value → List Value), FnOk P w K mg base CX0 k f fd ps sp ∧ mg x = some (.ref f) ∧ PySem.W.keepIn K (.ref f) = true ∧
    (∀ (s : Shared) (ws : List Value), (g ws).length = ps.length → BindsTo s fd ⟨[], ks.zip ws⟩ (ps.zip (g ws))) ∧ ∀ {zs : List V} {ws : List Value}, Vals zs ws → Vals (gV zs) (g ws)
def tKw (sp : Sp) (gV : List V → List V) (tk : TA) : TE := fun σ H Q => tk σ H fun zs H1 => sp (gV zs) H1 Q E0
section
variable {X : Cx} {k j : Nat} {x : Str} {ks : List Str} {gV : List V → List V} {sp : Sp} {p pos : Pos} {e : Expr} {es : List Expr} {kws : List Keyword} {t tk : TA}
theorem pe_u (c : Ca X.prog X.w X.K X.mg X.base k x sp) (hr : Room j X.A) (hk : k ≤ j) (hg : Gl X x) (ha : PA X (e :: es) t)
    (hd : (x == ("__debug__" : Str)) = false := by decide) (h1 : starEach (e :: es) X.env = (false, eval e X.env) :: starEach es X.env := by rfl) (h2 : (backTo pos (starEach es X.env)).any (·.1) = false := by rfl) :
    PE X (.Call (.Name x p) (e :: es) [] pos) (tCall sp [] E0 t) := by
  obtain ⟨f, fd, ps, F, hm, kp, b⟩ := c.ex
  exact pe_call F (hr.mono hk) hg hm kp b .nil pass0 ha hd h1 h2
theorem pe_kw (c : Ck X.prog X.w X.K X.mg X.base k x ks gV sp) (hr : Room j X.A) (hk : k ≤ j) (hg : Gl X x) (ha : PK X kws tk)
    (h1 : (backToKw pos (keywordEach kws X.env)).all (·.1.isSome) = true := by rfl) (h2 : (backToKw pos (keywordEach kws X.env)).filterMap (·.1) = ks := by rfl)
    (hd : (x == ("__debug__" : Str)) = false := by decide) (h3 : ((backTo pos (starEach [] X.env)).any (·.1) || (backToKw pos (keywordEach kws X.env)).any (·.1.isNone)) = false := by rfl) :
    PE X (.Call (.Name x p) [] kws pos) (tKw sp gV tk) := by
  obtain ⟨f, fd, ps, g, F, hm, kp, b, br⟩ := c.ex
  refine ⟨fun pins s σ H Q I h => ?_⟩
  refine wpAny_Call_Name_kw (ld_glob I hg hm ?_ hd)
  refine PySem.W.callWith_KW0 (h₀ := X.base) I.ok.mod.kin kp h1 (thn (ha.run pos pins s σ H _ I h) fun ws s2 ⟨zs, H2, I2, rz, q2⟩ => ⟨I2.kIn, ?_⟩) h3
  rw [h2]
  have rg := br rz
  have hl : (g ws).length = ps.length := by rw [← rg.length]; exact F.len _ _ _ _ q2
  show wpAny _ _ (call (.ref f) [] (ks.zip ws)) _ _ _
  refine wpAny_call (codeAny_mono (F.run X.A X.stack s2 H2 ⟨[], ks.zip ws⟩ (g ws) (gV zs) Q E0 (hr.mono hk) I2.env0 (b s2 ws hl) rg q2) fun r s' hq => ?_)
  cases r with
  | error e => exact hq.elim
  | ok fl =>
    cases fl with
    | ret u => exact I2.after hq
    | next => exact hq.elim
    | brk => exact hq.elim
    | cont => exact hq.elim
end
/-- a statement, then the rest, with what holds between them -/
def tMid (t u : TS) : TS := fun D σ H => ∃ M : L2.St → Hp → Prop, t { D with nx := M } σ H ∧ ∀ σ' H', M σ' H' → u D σ' H'
theorem pss_mid {X : Cx} {st : Stmt} {rest : List Stmt} {t u : TS} (a : PS X st t) (b : PSs X rest u) : PSs X (st :: rest) (tMid t u) :=
  ⟨fun pins s σ H D I h => by
    obtain ⟨M, hm, hn⟩ := h
    refine wpAny_execs_cons (thn (a.run pins s σ H { D with nx := M } I hm) fun f s1 q => ?_)
    cases f with
    | next =>
      obtain ⟨σ1, H1, I1, q1⟩ := q
      exact b.run pins s1 σ1 H1 D I1 (hn σ1 H1 q1)
    | ret v => exact q
    | brk => exact q
    | cont => exact q⟩
/-! ### rules whose reading names the written part K alone (within comprehensions) -/
theorem opK {X : Cx} {f : Value → Value → Sem Value} (r : R2) (h : OpR X f r) : OpR X f r := h
theorem ixK {X : Cx} (r : R2) (h : IxR X r) : IxR X r := h
theorem clK {X : Cx} {f : Value} (r : List V → Hp → VK → Prop) (h : CallR X f r) : CallR X f r := h
theorem slK {X : Cx} (r : V → Option Int → Option Int → Hp → VK → Prop) (h : SlR X r) : SlR X r := h
def rLenK (K : PySem.W.Frag) : List V → Hp → VK → Prop := fun as H Q => ∃ p ys, as = [.ref p] ∧ (SqL K H p ys ∨ SqT K H p ys) ∧ Q (.int ys.length) H
def rListK (K : PySem.W.Frag) : List V → Hp → VK → Prop := fun as H Q => ∃ p ys, as = [.ref p] ∧ (SqL K H p ys ∨ SqT K H p ys) ∧ ∀ l, H l = none → Q (.ref l) (upd H l (.lst ys))
theorem teK {X : Cx} {e : Expr} (t : TE) (h : PE X e t) : PE X e t := h
end Bd
namespace Bd
open PySem PySem.Spec PyProof.Rows L2 HT
theorem ifT {c A B : Prop} [Decidable c] (hc : c) (h : A) : if c then A else B := by rw [if_pos hc]; exact h
theorem ifF {c A B : Prop} [Decidable c] (hc : ¬ c) (h : B) : if c then A else B := by rw [if_neg hc]; exact h
/-! ### heaps without some addresses -/
def hid (S : List Addr) (H : Hp) : Hp := fun b => if b ∈ S then none else H b
theorem hid_of {S : List Addr} {H : Hp} {b : Addr} {o : HO} (h : H b = some o) (n : b ∉ S) : hid S H b = some o := by
  unfold hid; rw [if_neg n]; exact h
theorem of_hid {S : List Addr} {H : Hp} {b : Addr} {o : HO} (h : hid S H b = some o) : H b = some o ∧ b ∉ S := by
  unfold hid at h
  by_cases n : b ∈ S
  · rw [if_pos n] at h; cases h
  · rw [if_neg n] at h; exact ⟨h, n⟩
theorem hid_none {S : List Addr} {H : Hp} {b : Addr} (h : H b = none) : hid S H b = none := by
  unfold hid; split <;> first | rfl | exact h
/-- kept but for the addresses of S -/
def Kp (S : List Addr) (H H' : Hp) : Prop := Same (hid S H) (hid S H')
theorem Kp.refl {S : List Addr} {H : Hp} : Kp S H H := fun _ _ h => h
theorem Kp.trans {S : List Addr} {H H1 H2 : Hp} (a : Kp S H H1) (b : Kp S H1 H2) : Kp S H H2 := fun x o h => b x o (a x o h)
theorem Kp.at {S : List Addr} {H H1 : Hp} (k : Kp S H H1) {b : Addr} {o : HO} (h : H b = some o) (n : b ∉ S) : H1 b = some o := (of_hid (k b o (hid_of h n))).1
theorem Kp.wr {S : List Addr} {H H1 : Hp} (k : Kp S H H1) {a : Addr} {o : HO} (n : a ∈ S) : Kp S H (upd H1 a o) := fun b u h => by
  obtain ⟨h1, h2⟩ := of_hid (k b u h)
  exact hid_of (by rw [upd_ne (fun (e : b = a) => h2 (by rw [e]; exact n))]; exact h1) h2
/-- something that H does not know is laid or written -/
theorem Kp.new {S : List Addr} {H H1 : Hp} (k : Kp S H H1) {p : Addr} {o : HO} (n : hid S H p = none) : Kp S H (upd H1 p o) := fun b u h => by
  obtain ⟨h1, h2⟩ := of_hid (k b u h)
  refine hid_of ?_ h2
  rw [upd_ne (fun e => by rw [e, n] at h; cases h)]
  exact h1
theorem Kp.same {S : List Addr} {H H1 : Hp} (k : Same H H1) : Kp S H H1 := fun b u h => by
  obtain ⟨h1, h2⟩ := of_hid h
  exact hid_of (k b u h1) h2
theorem Kp.sub {S S' : List Addr} {H H1 : Hp} (k : Kp S H H1) (h : ∀ b ∈ S, b ∉ S' → ∀ o, H b = some o → H1 b = some o) : Kp S' H H1 := fun b u e => by
  obtain ⟨h1, h2⟩ := of_hid e
  by_cases n : b ∈ S
  · exact hid_of (h b n h2 u h1) h2
  · exact hid_of (k.at h1 n) h2
/-- addresses that H does not know may be dropped from S -/
theorem Kp.drop {S S' : List Addr} {H H1 : Hp} (k : Kp S H H1) (h : ∀ b ∈ S, b ∉ S' → H b = none) : Kp S' H H1 :=
  k.sub fun b n n' o e => by rw [h b n n'] at e; cases e
theorem Kp.mono {S S' : List Addr} {H H1 : Hp} (k : Kp S H H1) (h : ∀ b ∈ S, b ∈ S') : Kp S' H H1 := k.sub fun b n n' => absurd (h b n) n'
theorem hid_same {S : List Addr} {H : Hp} : Same (hid S H) H := fun b o h => (of_hid h).1
theorem hid_sub {S S' : List Addr} {H : Hp} (h : ∀ b ∈ S', b ∈ S) : Same (hid S H) (hid S' H) := fun b o e => hid_of (of_hid e).1 fun n => (of_hid e).2 (h b n)
theorem same_new {H : Hp} {p : Addr} {o : HO} (h : H p = none) : Same H (upd H p o) := fun b x e => by
  rw [upd_ne (ne_of_none e h)]
  exact e
theorem ne_new {H : Hp} {a p : Addr} {o : HO} (h : H a = some o) (n : H p = none) : p ≠ a := fun e => by rw [e, h] at n; cases n
/-! ### data in a heap -/
theorem same_tup {K : PySem.W.Frag} {H H' : Hp} {a : Addr} {xs : List V} (e : Same H H') (h : SqT K H a xs) : SqT K H' a xs := by
  rcases h with (h | ⟨o, h⟩) | h
  · exact .inl (.inl (e _ _ h))
  · exact .inl (.inr ⟨o, e _ _ h⟩)
  · exact .inr h
mutual
theorem dp_same {K : PySem.W.Frag} {H H' : Hp} (k : Same H H') : ∀ {d : PyData} {v : V}, Dp K H v d → Dp K H' v d
  | .none, _, h => by cases h; exact .non
  | .bool b, _, h => by cases h; exact .bl b
  | .int i, _, h => by cases h; exact .int i
  | .str x, _, h => by cases h; exact .str x
  | .list ds, _, h => by
    cases h with
    | lst hs ha => exact .lst (k.seq hs) (dps_same k ha)
  | .tuple ds, _, h => by
    cases h with
    | tup hs ha => exact .tup (same_tup k hs) (dps_same k ha)
  | .dict _, _, h => by cases h
theorem dps_same {K : PySem.W.Frag} {H H' : Hp} (k : Same H H') : ∀ {ds : List PyData} {vs : List V}, DpAll K H vs ds → DpAll K H' vs ds
  | [], _, h => by cases h; exact .nil
  | d :: ds, _, h => by
    cases h with
    | cons h1 h2 => exact .cons (dp_same k h1) (dps_same k h2)
end
theorem dps_len {K : PySem.W.Frag} {H : Hp} : ∀ {ds : List PyData} {vs : List V}, DpAll K H vs ds → vs.length = ds.length
  | [], _, h => by cases h; rfl
  | d :: ds, _, h => by
    cases h with
    | cons h1 h2 => rw [List.length_cons, List.length_cons, dps_len h2]
theorem dps_at {K : PySem.W.Frag} {H : Hp} : ∀ {ds : List PyData} {vs : List V} {i : Nat} {d : PyData}, DpAll K H vs ds → ds[i]? = some d → ∃ v, vs[i]? = some v ∧ Dp K H v d
  | [], _, i, _, h, e => by simp at e
  | d :: ds, _, 0, _, h, e => by
    cases h with
    | cons h1 h2 =>
      cases e
      exact ⟨_, rfl, h1⟩
  | d :: ds, _, i + 1, _, h, e => by
    cases h with
    | cons h1 h2 =>
      obtain ⟨v, h3, h4⟩ := dps_at h2 (i := i) (by simpa using e)
      exact ⟨v, by simpa using h3, h4⟩
theorem dps_app {K : PySem.W.Frag} {H : Hp} : ∀ {ds es : List PyData} {vs us : List V}, DpAll K H vs ds → DpAll K H us es → DpAll K H (vs ++ us) (ds ++ es)
  | [], _, _, _, h, g => by cases h; exact g
  | d :: ds, _, _, _, h, g => by
    cases h with
    | cons h1 h2 => exact .cons h1 (dps_app h2 g)
theorem dps_ints {K : PySem.W.Frag} {H : Hp} : ∀ ns : List Int, DpAll K H (ns.map V.int) (ns.map PyData.int)
  | [] => .nil
  | n :: ns => .cons (.int n) (dps_ints ns)
theorem dps_ints_eq {K : PySem.W.Frag} {H : Hp} : ∀ {ns : List Int} {vs : List V}, DpAll K H vs (ns.map PyData.int) → vs = ns.map V.int
  | [], _, h => by cases h; rfl
  | n :: ns, _, h => by
    cases h with
    | cons h1 h2 =>
      cases h1
      rw [dps_ints_eq h2]
      rfl
theorem dp_list {K : PySem.W.Frag} {H : Hp} {v : V} {ds : List PyData} (h : Dp K H v (.list ds)) : ∃ a xs, v = .ref a ∧ SqL K H a xs ∧ DpAll K H xs ds := by
  cases h with
  | lst h1 h2 => exact ⟨_, _, rfl, h1, h2⟩
theorem dp_tup {K : PySem.W.Frag} {H : Hp} {v : V} {ds : List PyData} (h : Dp K H v (.tuple ds)) : ∃ a xs, v = .ref a ∧ SqT K H a xs ∧ DpAll K H xs ds := by
  cases h with
  | tup h1 h2 => exact ⟨_, _, rfl, h1, h2⟩
theorem dp_int {K : PySem.W.Frag} {H : Hp} {v : V} {i : Int} (h : Dp K H v (.int i)) : v = .int i := by
  cases h; rfl
theorem dp_pair {K : PySem.W.Frag} {H : Hp} {v : V} {d e : PyData} (h : Dp K H v (.tuple [d, e])) : ∃ a x y, v = .ref a ∧ SqT K H a [x, y] ∧ Dp K H x d ∧ Dp K H y e := by
  cases h with
  | tup h1 h2 =>
    cases h2 with
    | cons h3 h4 =>
      cases h4 with
      | cons h5 h6 =>
        cases h6
        exact ⟨_, _, _, rfl, h1, h3, h5⟩
theorem mk_pair {K : PySem.W.Frag} {H : Hp} {a : Addr} {x y : V} {d e : PyData} (h : H a = some (.tup [x, y])) (hx : Dp K H x d) (hy : Dp K H y e) : Dp K H (.ref a) (.tuple [d, e]) :=
  .tup (.inl (.inl h)) (.cons hx (.cons hy .nil))
theorem mk_ints {K : PySem.W.Frag} {H : Hp} {a : Addr} {ns : List Int} (h : H a = some (.lst (ns.map V.int))) : Dp K H (.ref a) (.list (ns.map .int)) :=
  .lst (.inl (.inl h)) (dps_ints ns)
theorem dp_ints {K : PySem.W.Frag} {H : Hp} {v : V} {ns : List Int} (h : Dp K H v (.list (ns.map .int))) : ∃ a, v = .ref a ∧ SqL K H a (ns.map V.int) := by
  obtain ⟨a, xs, rfl, h1, h2⟩ := dp_list h
  rw [dps_ints_eq h2] at h1
  exact ⟨a, rfl, h1⟩
/-! ### the bag -/
def bagL (c : Addr) (i s t : Int) : List V := [.ref c, .int i, .int s, .int t]
structure Bag (H : Hp) (a c : Addr) : Prop where
  ex : ∃ (ls : List Int) (i s t : Int), H a = some (.lst (bagL c i s t)) ∧ H c = some (.lst (ls.map V.int)) ∧ 0 ≤ i ∧ ls.length ≤ 1000 ∧ 0 ≤ s ∧ s < 2 ^ 63
  ne : a ≠ c
theorem Bag.keep {H H' : Hp} {a c : Addr} (b : Bag H a c) (k : Same H H') : Bag H' a c := by
  obtain ⟨⟨ls, i, s, t, h1, h2, h3⟩, h4⟩ := b
  exact ⟨⟨ls, i, s, t, k _ _ h1, k _ _ h2, h3⟩, h4⟩
theorem Bag.ha {H : Hp} {a c : Addr} (b : Bag H a c) : ∃ o, H a = some o := by
  obtain ⟨⟨ls, i, s, t, h1, h2, h3⟩, h4⟩ := b
  exact ⟨_, h1⟩
theorem Bag.hc {H : Hp} {a c : Addr} (b : Bag H a c) : ∃ o, H c = some o := by
  obtain ⟨⟨ls, i, s, t, h1, h2, h3⟩, h4⟩ := b
  exact ⟨_, h2⟩
/-- a new object is laid: the bag stays -/
theorem Bag.new {H : Hp} {a c p : Addr} {o : HO} (b : Bag H a c) (n : H p = none) : Bag (upd H p o) a c := b.keep (same_new n)
theorem Bag.out {H : Hp} {a c p : Addr} (b : Bag H a c) (n : H p = none) : p ∉ [a, c] := by
  obtain ⟨o, h1⟩ := b.ha
  obtain ⟨o2, h2⟩ := b.hc
  intro z
  rcases List.mem_cons.mp z with rfl | z
  · rw [h1] at n; cases n
  · rcases List.mem_cons.mp z with rfl | z
    · rw [h2] at n; cases n
    · cases z
/-- an object beside the bag is written -/
theorem Bag.wr {H : Hp} {a c p : Addr} {o : HO} (b : Bag H a c) (n : p ∉ [a, c]) : Bag (upd H p o) a c := by
  obtain ⟨⟨ls, i, s, t, h1, h2, h3⟩, h4⟩ := b
  refine ⟨⟨ls, i, s, t, ?_, ?_, h3⟩, h4⟩
  · rw [upd_ne (fun e => n (by simp [e]))]; exact h1
  · rw [upd_ne (fun e => n (by simp [e]))]; exact h2
/-- the promise of a draw -/
def spDraw : Sp := fun vs H Q _ => ∃ (a c : Addr) (m : Int), vs = [.ref a, .int m] ∧ Bag H a c ∧ 0 < m ∧ m < 2 ^ 1000 ∧
  ∀ r H', 0 ≤ r → r < m → Bag H' a c → Kp [a, c] H H' → Q (.int r) H'
end Bd
namespace Bd
open PySem PySem.Spec PyProof.Rows L2 HT
theorem cut_ints (ns : List Int) (lo hi : Option Int) : ∃ ms : List Int, cutV (ns.map V.int) lo hi = ms.map V.int ∧ ms.length ≤ ns.length := by
  refine ⟨(ns.drop (HT.sIx (ns.map V.int).length 0 lo)).take (HT.sIx (ns.map V.int).length (ns.map V.int).length hi - HT.sIx (ns.map V.int).length 0 lo), ?_, ?_⟩
  · unfold cutV
    rw [List.map_take, List.map_drop]
  · rw [List.length_take, List.length_drop]
    omega
theorem ints_at {ns : List Int} {i : Nat} {x : V} (h : (ns.map V.int)[i]? = some x) : ∃ n, x = V.int n ∧ ns[i]? = some n := by
  rw [List.getElem?_map] at h
  cases e : ns[i]? with
  | none => rw [e] at h; cases h
  | some n =>
    rw [e] at h
    exact ⟨n, (Option.some.inj h).symm, rfl⟩
theorem lt_of_at {α : Type} {xs : List α} {i : Nat} {x : α} (h : xs[i]? = some x) : i < xs.length := (List.getElem?_eq_some_iff.mp h).1
def spBag (K : PySem.W.Frag) : Sp := fun vs H Q _ => ∃ (a : Addr) (ns : List Int), vs = [.ref a] ∧ SqL K H a (ns.map V.int) ∧ ns.length ≤ 63 ∧
  ∀ b c H', Same H H' → H b = none → H c = none → Bag H' b c → Q (.ref b) H'
end Bd
namespace Bd
open PySem PySem.Spec PyProof.Rows L2 HT
def pairD (p : Nat × Nat) : PyData := .tuple [.int p.1, .int p.2]
def doorsD (ds : List (Nat × Nat)) : PyData := .list (ds.map pairD)
def houseD (rooms : Nat) (ds : List (Nat × Nat)) : PyData := .tuple [.int rooms, doorsD ds]
/-- doors of so many rooms -/
def Doors (rooms : Nat) (ds : List (Nat × Nat)) : Prop := ∀ d ∈ ds, d.1 < rooms ∧ d.2 < rooms ∧ d.1 ≠ d.2
theorem Kp.free {S : List Addr} {H H1 : Hp} (k : Kp S H H1) {p : Addr} (n : H1 p = none) : hid S H p = none := by
  cases e : hid S H p with
  | none => rfl
  | some o =>
    have := (of_hid (k p o e)).1
    rw [n] at this; cases this
/-- data of a shape that == takes, of depth n at most -/
def Shp (n : Nat) (d : PyData) : Prop := d.canLay0 = true ∧ d.depth ≤ n
theorem Shp.ok {n : Nat} {d : PyData} (h : Shp n d) (hn : n ≤ 64) : SeqAt.shaped d = true := by
  unfold SeqAt.shaped
  rw [h.1, Bool.true_and]
  exact decide_eq_true (Nat.le_trans h.2 hn)
theorem shp_int {n : Nat} (i : Int) : Shp n (.int i) := ⟨rfl, Nat.zero_le _⟩
theorem shp_all {n : Nat} : ∀ {xs : List PyData}, (∀ x ∈ xs, Shp n x) → PyData.canLayAll0 xs = true ∧ PyData.depthAll xs ≤ n
  | [], _ => ⟨rfl, Nat.zero_le _⟩
  | x :: xs, h => by
    obtain ⟨h1, h2⟩ := h x (List.mem_cons_self)
    obtain ⟨h3, h4⟩ := shp_all (xs := xs) fun y hy => h y (List.mem_cons_of_mem _ hy)
    exact ⟨by rw [PyData.canLayAll0, h1, h3]; rfl, by rw [PyData.depthAll]; exact Nat.max_le.mpr ⟨h2, h4⟩⟩
theorem shp_list {n : Nat} {xs : List PyData} (h : ∀ x ∈ xs, Shp n x) : Shp (n + 1) (.list xs) := by
  obtain ⟨h1, h2⟩ := shp_all h
  exact ⟨by rw [PyData.canLay0]; exact h1, by rw [PyData.depth]; omega⟩
theorem shp_tup {n : Nat} {xs : List PyData} (h : ∀ x ∈ xs, Shp n x) : Shp (n + 1) (.tuple xs) := by
  obtain ⟨h1, h2⟩ := shp_all h
  exact ⟨by rw [PyData.canLay0]; exact h1, by rw [PyData.depth]; omega⟩
theorem shp_ints {n : Nat} (ns : List Int) : Shp (n + 1) (.list (ns.map .int)) := shp_list fun x hx => by
  obtain ⟨i, _, rfl⟩ := List.mem_map.mp hx
  exact shp_int i
theorem shp_pair {n : Nat} (p : Nat × Nat) : Shp (n + 1) (pairD p) := shp_tup fun x hx => by
  rcases List.mem_cons.mp hx with rfl | hx
  · exact shp_int _
  · rcases List.mem_cons.mp hx with rfl | hx
    · exact shp_int _
    · cases hx
theorem shp_doors {n : Nat} (ds : List (Nat × Nat)) : Shp (n + 2) (doorsD ds) := shp_list fun x hx => by
  obtain ⟨p, _, rfl⟩ := List.mem_map.mp hx
  exact shp_pair p
theorem shp_house {n : Nat} (rooms : Nat) (ds : List (Nat × Nat)) : Shp (n + 3) (houseD rooms ds) := shp_tup fun x hx => by
  rcases List.mem_cons.mp hx with rfl | hx
  · exact shp_int _
  · rcases List.mem_cons.mp hx with rfl | hx
    · exact shp_doors ds
    · cases hx
theorem atI_two {x y : V} {r : Int} (h0 : 0 ≤ r) (h1 : r < 2) : ∃ v, atI [x, y] r = some v ∧ (v = x ∨ v = y) := by
  have : r = 0 ∨ r = 1 := by omega
  rcases this with rfl | rfl
  · exact ⟨x, rfl, .inl rfl⟩
  · exact ⟨y, rfl, .inr rfl⟩
def spGround (K : PySem.W.Frag) : Sp := fun vs H Q _ => ∃ (a c : Addr) (most wide : Nat), vs = [.ref a, .int most, .int wide] ∧ Bag H a c ∧ 0 < most ∧ most ≤ 10 ∧ wide ≤ 24 ∧
  ∀ hv H' rooms ds, 0 < rooms → rooms ≤ max 4 most → ds.length ≤ max 5 wide → Doors rooms ds → Bag H' a c → Kp [a, c] H H' → Dp K (hid [a, c] H') hv (houseD rooms ds) → Q hv H'
end Bd
namespace Bd
open PySem PySem.Spec PyProof.Rows L2 HT
/-! ### what rooms meet, what leaves lots -/
abbrev Dc := (Nat × Nat) × Int
def metAt (z : List Dc) (r : Nat) : Int := (z.map fun x => (if x.1.1 = r then x.2 else 0) + (if x.1.2 = r then x.2 else 0)).sum
def metL (rooms : Nat) (z : List Dc) : List Int := (List.range rooms).map (metAt z)
def lvAt (lot : List Nat) (x : Dc) : Bool := decide (x.1.1 ∈ lot) != decide (x.1.2 ∈ lot)
def leaveM (z : List Dc) (lot : List Nat) : Int := ((z.filter (lvAt lot)).map (·.2)).sum
def natsL (lot : List Nat) : List Int := lot.map fun (r : Nat) => (r : Int)
theorem natsL_len (lot : List Nat) : (natsL lot).length = lot.length := by unfold natsL; rw [List.length_map]
theorem natsL_at {lot : List Nat} {i r : Nat} (h : lot[i]? = some r) : (natsL lot)[i]? = some (r : Int) := by
  unfold natsL; rw [List.getElem?_map, h]; rfl
theorem metAt_snoc (z : List Dc) (x : Dc) (r : Nat) : metAt (z ++ [x]) r = metAt z r + ((if x.1.1 = r then x.2 else 0) + (if x.1.2 = r then x.2 else 0)) := by
  unfold metAt
  rw [List.map_append, List.sum_append]
  simp
theorem metL_len (rooms : Nat) (z : List Dc) : (metL rooms z).length = rooms := by unfold metL; rw [List.length_map, List.length_range]
theorem metL_at {rooms r : Nat} (z : List Dc) (h : r < rooms) : (metL rooms z)[r]? = some (metAt z r) := by
  unfold metL
  rw [List.getElem?_map, List.getElem?_range h]
  rfl
theorem metL_snoc {rooms : Nat} (z : List Dc) (x : Dc) (h1 : x.1.1 < rooms) (h2 : x.1.2 < rooms) (hn : x.1.1 ≠ x.1.2) :
    ((metL rooms z).set x.1.1 (metAt z x.1.1 + x.2)).set x.1.2 (metAt z x.1.2 + x.2) = metL rooms (z ++ [x]) := by
  apply List.ext_getElem?
  intro i
  by_cases hi : i < rooms
  · rw [metL_at _ hi, metAt_snoc]
    by_cases e2 : x.1.2 = i
    · subst e2
      rw [List.getElem?_set_self (by rw [List.length_set, metL_len]; exact hi), if_neg hn, if_pos rfl, Int.zero_add]
    · rw [List.getElem?_set_ne e2, if_neg e2, Int.add_zero]
      by_cases e1 : x.1.1 = i
      · subst e1
        rw [List.getElem?_set_self (by rw [metL_len]; exact hi), if_pos rfl]
      · rw [List.getElem?_set_ne e1, if_neg e1, Int.add_zero, metL_at _ hi]
  · rw [List.getElem?_eq_none (by simp only [List.length_set, metL_len]; omega), List.getElem?_eq_none (by rw [metL_len]; omega)]
theorem metL_nil (rooms : Nat) : metL rooms [] = List.replicate rooms 0 := by
  apply List.ext_getElem?
  intro i
  by_cases hi : i < rooms
  · rw [metL_at _ hi, List.getElem?_replicate, if_pos hi]
    rfl
  · rw [List.getElem?_eq_none (by rw [metL_len]; omega), List.getElem?_eq_none (by simp; omega)]
theorem zip_at {ds : List (Nat × Nat)} {cs : List Int} {i : Nat} {d : Nat × Nat} {c : Int} (h1 : ds[i]? = some d) (h2 : cs[i]? = some c) : (ds.zip cs)[i]? = some (d, c) := by
  rw [List.getElem?_zip_eq_some]
  exact ⟨h1, h2⟩
theorem take_snoc {α : Type} {xs : List α} {i : Nat} {x : α} (h : xs[i]? = some x) : xs.take (i + 1) = xs.take i ++ [x] := by
  rw [List.take_add_one, h]
  rfl
theorem inV_nats (r : Nat) (lot : List Nat) : inV (.int r) ((natsL lot).map V.int) = decide (r ∈ lot) := by
  unfold inV natsL
  rw [List.map_map, List.any_map]
  induction lot with
  | nil => rfl
  | cons x xs ih =>
    rw [List.any_cons, ih]
    show ((x : Int) == (r : Int) || decide (r ∈ xs)) = decide (r ∈ x :: xs)
    by_cases h : r = x
    · subst h
      simp
    · have h2 : ((x : Int) == (r : Int)) = false := by
        rw [beq_eq_false_iff_ne]
        omega
      rw [h2, Bool.false_or]
      simp [h]
theorem flat_ints (ns : List Int) : (ns.map V.int).all flatV = true := by
  rw [List.all_map, List.all_eq_true]
  intro x _
  rfl
theorem leave_take {z : List Dc} {lot : List Nat} {i : Nat} {x : Dc} (h : z[i]? = some x) :
    ((z.take (i + 1)).filter (lvAt lot)).map (·.2) = if lvAt lot x = true then ((z.take i).filter (lvAt lot)).map (·.2) ++ [x.2] else ((z.take i).filter (lvAt lot)).map (·.2) := by
  rw [take_snoc h, List.filter_append, List.map_append]
  by_cases e : lvAt lot x = true
  · rw [if_pos e, List.filter_cons_of_pos e]
    rfl
  · rw [if_neg e, List.filter_cons_of_neg e]
    simp
def spMet (K : PySem.W.Frag) : Sp := fun vs H Q _ => ∃ (hv cv : V) (rooms : Nat) (ds : List (Nat × Nat)) (cs : List Int), vs = [hv, cv] ∧ Dp K H hv (houseD rooms ds) ∧ Dp K H cv (.list (cs.map .int)) ∧ rooms ≤ 100 ∧ cs.length = ds.length ∧ ds.length ≤ 500 ∧ Doors rooms ds ∧
  ∀ H' p, Same H H' → H p = none → H' p = some (.lst ((metL rooms (ds.zip cs)).map V.int)) → Q (.ref p) H'
def spLeave (K : PySem.W.Frag) : Sp := fun vs H Q _ => ∃ (hv cv lv : V) (rooms : Nat) (ds : List (Nat × Nat)) (cs : List Int) (lot : List Nat), vs = [hv, cv, lv] ∧ Dp K H hv (houseD rooms ds) ∧ Dp K H cv (.list (cs.map .int)) ∧ Dp K H lv (.list ((natsL lot).map .int)) ∧
  cs.length = ds.length ∧ ds.length ≤ 500 ∧ ∀ H', Same H H' → Q (.int (leaveM (ds.zip cs) lot)) H'
/-- a house, read -/
theorem house_of {K : PySem.W.Frag} {H : Hp} {hv : V} {rooms : Nat} {ds : List (Nat × Nat)} (h : Dp K H hv (houseD rooms ds)) :
    ∃ s d vs, hv = .ref s ∧ SqT K H s [.int rooms, .ref d] ∧ SqL K H d vs ∧ DpAll K H vs (ds.map pairD) := by
  obtain ⟨s, x, y, rfl, h1, h2, h3⟩ := dp_pair h
  obtain rfl := dp_int h2
  obtain ⟨d, vs, rfl, h4, h5⟩ := dp_list h3
  exact ⟨s, d, vs, rfl, h1, h4, h5⟩
theorem pair_of {K : PySem.W.Frag} {H : Hp} {v : V} {d : Nat × Nat} (h : Dp K H v (pairD d)) : ∃ p, v = .ref p ∧ SqT K H p [.int d.1, .int d.2] := by
  obtain ⟨s, x, y, rfl, h1, h2, h3⟩ := dp_pair h
  obtain rfl := dp_int h2
  obtain rfl := dp_int h3
  exact ⟨s, rfl, h1⟩
theorem pairs_at {K : PySem.W.Frag} {H : Hp} {vs : List V} {ds : List (Nat × Nat)} {i : Nat} {v : V} (h : DpAll K H vs (ds.map pairD)) (e : vs[i]? = some v) : ∃ d p, ds[i]? = some d ∧ v = .ref p ∧ SqT K H p [.int d.1, .int d.2] := by
  have hl := dps_len h
  rw [List.length_map] at hl
  have hi : i < ds.length := by have := lt_of_at e; omega
  obtain ⟨u, e1, h1⟩ := dps_at h (i := i) (d := pairD ds[i]) (by rw [List.getElem?_map, List.getElem?_eq_getElem hi]; rfl)
  rw [e] at e1
  cases e1
  obtain ⟨p, rfl, h2⟩ := pair_of h1
  exact ⟨ds[i], p, List.getElem?_eq_getElem hi, rfl, h2⟩
end Bd
namespace Bd
open PySem PySem.Spec PyProof.Rows L2 HT
theorem ixN_nat {n j : Nat} (h : j < n) : ixN n (j : Int) = some j := by
  unfold ixN
  rw [if_pos (by omega), if_pos (by omega)]
  simp
theorem flat_rep (n : Nat) : (List.replicate n [V.int 0]).flatten = (List.replicate n (0 : Int)).map V.int := by
  induction n with
  | zero => rfl
  | succ n ih => rw [List.replicate_succ, List.flatten_cons, ih, List.replicate_succ]; rfl
end Bd
namespace Bd
open PySem PySem.Spec PyProof.Rows L2 HT
/-! ### two things that are the same data -/
/-- ints, and lists and tuples of such, at most n deep, of at most 1000 things each -/
inductive Gd : Nat → PyData → Prop
  | int (n : Nat) (i : Int) : Gd n (.int i)
  | lst {n : Nat} {ds : List PyData} (h : ∀ d ∈ ds, Gd n d) (l : ds.length ≤ 1000) : Gd (n + 1) (.list ds)
  | tup {n : Nat} {ds : List PyData} (h : ∀ d ∈ ds, Gd n d) (l : ds.length ≤ 1000) : Gd (n + 1) (.tuple ds)
theorem tyx_list {K : PySem.W.Frag} {H : Hp} {a : Addr} {xs : List V} (h : SqL K H a xs) : TyX K H (.ref a) (.type "list") := by
  rcases h with (h | ⟨o, h⟩) | ⟨o, its, n, h, c, _⟩
  · exact .base (.lst h)
  · exact .base (.frz h)
  · exact .kList h c
theorem tyx_tup {K : PySem.W.Frag} {H : Hp} {a : Addr} {xs : List V} (h : SqT K H a xs) : TyX K H (.ref a) (.type "tuple") := by
  rcases h with (h | ⟨o, h⟩) | ⟨o, its, n, h, c, _⟩
  · exact .base (.tup h)
  · exact .fTuple h
  · exact .kTuple h c
theorem tyx_same {K : PySem.W.Frag} {H H' : Hp} {v : V} {n : String} (k : Same H H') (h : (∃ a xs, v = .ref a ∧ n = "list" ∧ SqL K H a xs) ∨ (∃ a xs, v = .ref a ∧ n = "tuple" ∧ SqT K H a xs) ∨ (∃ i, v = .int i ∧ n = "int")) : TyX K H' v (.type n) := by
  rcases h with ⟨a, xs, rfl, rfl, h⟩ | ⟨a, xs, rfl, rfl, h⟩ | ⟨i, rfl, rfl⟩
  · exact tyx_list (k.seq h)
  · exact tyx_tup (same_tup k h)
  · exact .base (.int i)
theorem kit_two {K : PySem.W.Frag} {a b c : String} {v u : Bool} (h1 : kitB a b = some v) (h2 : kitB a c = some u) : PySem.W.kitAny K (.type a) [.type b, .type c] = some (v || u) := by
  refine kitAny_cons (kit_ty h1) (fun e => ?_) (fun e => by rw [e]; rfl)
  rw [e, Bool.false_or]
  refine kitAny_cons (kit_ty h2) (fun e => by rw [e]; exact kitAny_nil) (fun e => e)
def spAlike (K : PySem.W.Frag) : Nat → Sp
  | 0 => fun _ _ _ _ => False
  | n + 1 => fun vs H Q _ => ∃ (v u : V) (d : PyData), vs = [v, u] ∧ Dp K H v d ∧ Dp K H u d ∧ Gd n d ∧ ∀ H', Same H H' → Q (.bl true) H'
end Bd
namespace Bd
open PySem PySem.Spec PyProof.Rows L2 HT
theorem atI_three {x y z : V} {r : Int} (h0 : 0 ≤ r) (h1 : r < 3) : ∃ v, atI [x, y, z] r = some v ∧ (v = x ∨ v = y ∨ v = z) := by
  have : r = 0 ∨ r = 1 ∨ r = 2 := by omega
  rcases this with rfl | rfl | rfl
  · exact ⟨x, rfl, .inl rfl⟩
  · exact ⟨y, rfl, .inr (.inl rfl)⟩
  · exact ⟨z, rfl, .inr (.inr rfl)⟩
def spTallies (K : PySem.W.Frag) : Sp := fun vs H Q _ => ∃ (a c : Addr) (dv : V) (ds : List (Nat × Nat)), vs = [.ref a, dv] ∧ Bag H a c ∧ Dp K (hid [a, c] H) dv (doorsD ds) ∧ ds.length ≤ 100 ∧
  ∀ t H' (cs : List Int), cs.length = ds.length → (∀ x ∈ cs, 0 ≤ x ∧ x < 10 ^ 20) → Bag H' a c → Kp [a, c] H H' → Dp K (hid [a, c] H') (.ref t) (.list (cs.map .int)) → Q (.ref t) H'
def spLot (K : PySem.W.Frag) : Sp := fun vs H Q _ => ∃ (a c : Addr) (rooms : Nat), vs = [.ref a, .int rooms] ∧ Bag H a c ∧ rooms ≤ 100 ∧
  ∀ t H' (lot : List Nat), lot.length ≤ rooms → Bag H' a c → Kp [a, c] H H' → Dp K (hid [a, c] H') (.ref t) (.list ((natsL lot).map .int)) → Q (.ref t) H'
end Bd
namespace Bd
open PySem PySem.Spec PyProof.Rows L2 HT
theorem rgV_nats (n : Nat) : rgV 0 (n : Int) = (natsL (List.range n)).map V.int := by
  unfold rgV natsL
  rw [List.map_map, Int.sub_zero, Int.toNat_natCast]
  refine List.map_congr_left fun i _ => ?_
  show V.int (0 + (i : Int)) = V.int (i : Int)
  rw [Int.zero_add]
end Bd
namespace Bd
open PySem PySem.Spec PyProof.Rows L2 HT
theorem filt_take {z : List Dc} {p : Dc → Bool} {i : Nat} {x : Dc} (h : z[i]? = some x) :
    ((z.take (i + 1)).filter p).map (fun x => V.int x.2) = if p x = true then ((z.take i).filter p).map (fun x => V.int x.2) ++ [V.int x.2] else ((z.take i).filter p).map (fun x => V.int x.2) := by
  rw [take_snoc h, List.filter_append, List.map_append]
  by_cases e : p x = true
  · rw [if_pos e, List.filter_cons_of_pos e]
    rfl
  · rw [if_neg e, List.filter_cons_of_neg e]
    simp
/-- a door at a room -/
def atRoom (r : Nat) (x : Dc) : Bool := decide (r = x.1.1) || decide (r = x.1.2)
theorem atRoom_sum (r : Nat) : ∀ z : List Dc, (∀ x ∈ z, x.1.1 ≠ x.1.2) → ((z.filter (atRoom r)).map Prod.snd).sum = metAt z r
  | [], _ => rfl
  | x :: z, h => by
    have h1 := h x List.mem_cons_self
    have ih := atRoom_sum r z fun y hy => h y (List.mem_cons_of_mem _ hy)
    have e : metAt (x :: z) r = ((if x.1.1 = r then x.2 else 0) + (if x.1.2 = r then x.2 else 0)) + metAt z r := by
      unfold metAt
      rw [List.map_cons, List.sum_cons]
    rw [e, ← ih]
    by_cases c1 : x.1.1 = r
    · have c2 : x.1.2 ≠ r := fun q => h1 (c1.trans q.symm)
      rw [List.filter_cons_of_pos (by unfold atRoom; simp [c1]), List.map_cons, List.sum_cons, if_pos c1, if_neg c2, Int.add_zero]
    · by_cases c2 : x.1.2 = r
      · rw [List.filter_cons_of_pos (by unfold atRoom; simp [c2]), List.map_cons, List.sum_cons, if_neg c1, if_pos c2, Int.zero_add]
      · rw [List.filter_cons_of_neg (by unfold atRoom; simp; exact ⟨fun q => c1 q.symm, fun q => c2 q.symm⟩), if_neg c1, if_neg c2, Int.add_zero, Int.zero_add]
theorem inV_pair (r a b : Nat) : inV (.int r) [.int a, .int b] = (decide (r = a) || decide (r = b)) := by
  show ((a : Int) == (r : Int) || ((b : Int) == (r : Int) || false)) = _
  rw [Bool.or_false]
  congr 1
  · by_cases h : r = a
    · subst h; simp
    · rw [beq_eq_false_iff_ne.mpr (by omega), decide_eq_false h]
  · by_cases h : r = b
    · subst h; simp
    · rw [beq_eq_false_iff_ne.mpr (by omega), decide_eq_false h]
theorem zip_doors {rooms : Nat} {ds : List (Nat × Nat)} {cs : List Int} (h : Doors rooms ds) : ∀ x ∈ ds.zip cs, x.1.1 ≠ x.1.2 := fun x hx => (h x.1 (List.of_mem_zip (a := x.1) (b := x.2) hx).1).2.2
theorem gd_ints {n : Nat} {ns : List Int} (l : ns.length ≤ 1000) : Gd (n + 1) (.list (ns.map .int)) := .lst (fun d hd => by
  obtain ⟨i, _, rfl⟩ := List.mem_map.mp hd
  exact .int _ _) (by rw [List.length_map]; exact l)
def spRight (K : PySem.W.Frag) : Sp := fun vs H Q _ => ∃ (hv cv : V) (rooms : Nat) (ds : List (Nat × Nat)) (cs : List Int), vs = [hv, cv] ∧ Dp K H hv (houseD rooms ds) ∧ Dp K H cv (.list (cs.map .int)) ∧ rooms ≤ 100 ∧ cs.length = ds.length ∧ ds.length ≤ 500 ∧ Doors rooms ds ∧
  ∀ H', Same H H' → Q (.bl true) H'
def spLotRight (K : PySem.W.Frag) : Sp := fun vs H Q _ => ∃ (hv cv lv : V) (rooms : Nat) (ds : List (Nat × Nat)) (cs : List Int) (lot : List Nat), vs = [hv, cv, lv] ∧ Dp K H hv (houseD rooms ds) ∧ Dp K H cv (.list (cs.map .int)) ∧ Dp K H lv (.list ((natsL lot).map .int)) ∧
  rooms ≤ 100 ∧ lot.length ≤ 100 ∧ cs.length = ds.length ∧ ds.length ≤ 500 ∧ Doors rooms ds ∧ ∀ H', Same H H' → Q (.bl true) H'
end Bd
namespace Bd
open PySem PySem.Spec PyProof.Rows L2 HT
theorem leaveM_snoc (z : List Dc) (x : Dc) (lot : List Nat) : leaveM (z ++ [x]) lot = leaveM z lot + (if lvAt lot x = true then x.2 else 0) := by
  unfold leaveM
  rw [List.filter_append, List.map_append, List.sum_append]
  by_cases e : lvAt lot x = true
  · rw [if_pos e, List.filter_cons_of_pos e]
    simp
  · rw [if_neg e, List.filter_cons_of_neg e]
    simp
/-- rooms that are not in a lot -/
def besideL (rooms : Nat) (lot : List Nat) : List Nat := (List.range rooms).filter fun r => !decide (r ∈ lot)
theorem mem_beside {rooms r : Nat} {lot : List Nat} (h : r < rooms) : decide (r ∈ besideL rooms lot) = !decide (r ∈ lot) := by
  unfold besideL
  by_cases e : r ∈ lot
  · rw [decide_eq_true e, decide_eq_false]
    · rfl
    · intro q
      have := (List.mem_filter.mp q).2
      rw [decide_eq_true e] at this
      cases this
  · rw [decide_eq_false e, decide_eq_true]
    · rfl
    · exact List.mem_filter.mpr ⟨List.mem_range.mpr h, by rw [decide_eq_false e]; rfl⟩
theorem leave_beside {rooms : Nat} {lot : List Nat} : ∀ {z : List Dc}, (∀ x ∈ z, x.1.1 < rooms ∧ x.1.2 < rooms) → leaveM z (besideL rooms lot) = leaveM z lot := by
  intro z h
  unfold leaveM
  have e : z.filter (lvAt (besideL rooms lot)) = z.filter (lvAt lot) := by
    refine List.filter_congr fun x hx => ?_
    obtain ⟨h1, h2⟩ := h x hx
    unfold lvAt
    rw [mem_beside h1, mem_beside h2]
    cases decide (x.1.1 ∈ lot) <;> cases decide (x.1.2 ∈ lot) <;> rfl
  rw [e]
theorem zip_rooms {rooms : Nat} {ds : List (Nat × Nat)} {cs : List Int} (h : Doors rooms ds) : ∀ x ∈ ds.zip cs, x.1.1 < rooms ∧ x.1.2 < rooms := fun x hx =>
  ⟨(h x.1 (List.of_mem_zip (a := x.1) (b := x.2) hx).1).1, (h x.1 (List.of_mem_zip (a := x.1) (b := x.2) hx).1).2.1⟩
theorem nats_at {lot : List Nat} {i : Nat} {x : V} (h : ((natsL lot).map V.int)[i]? = some x) : ∃ r : Nat, x = V.int r ∧ lot[i]? = some r := by
  obtain ⟨n, rfl, e⟩ := ints_at h
  unfold natsL at e
  rw [List.getElem?_map] at e
  cases q : lot[i]? with
  | none => rw [q] at e; cases e
  | some r =>
    rw [q] at e
    exact ⟨r, by rw [← Option.some.inj e], rfl⟩
/-- what a comprehension with a test has made, a turn more -/
theorem nats_take {lot : List Nat} {p : Nat → Bool} {i r : Nat} (h : lot[i]? = some r) :
    (natsL ((lot.take (i + 1)).filter p)).map V.int = if p r = true then (natsL ((lot.take i).filter p)).map V.int ++ [V.int r] else (natsL ((lot.take i).filter p)).map V.int := by
  unfold natsL
  rw [take_snoc h, List.filter_append, List.map_append, List.map_append]
  by_cases e : p r = true
  · rw [if_pos e, List.filter_cons_of_pos e]
    rfl
  · rw [if_neg e, List.filter_cons_of_neg e]
    simp
theorem one_in (a b : Nat) (lot : List Nat) (c : Int) : (([a, b].filter fun r => decide (r ∈ lot)).length : Int) = 1 ↔ lvAt lot ((a, b), c) = true := by
  unfold lvAt
  by_cases h1 : a ∈ lot <;> by_cases h2 : b ∈ lot <;> simp [h1, h2]
end Bd
namespace Bd
open PySem PySem.Spec PyProof.Rows L2 HT
theorem shp_two {n : Nat} {d e : PyData} (h1 : Shp n d) (h2 : Shp n e) : Shp (n + 1) (.list [d, e]) := shp_list fun x hx => by
  rcases List.mem_cons.mp hx with rfl | hx
  · exact h1
  · rcases List.mem_cons.mp hx with rfl | hx
    · exact h2
    · cases hx
theorem Shp.refl {n : Nat} {d : PyData} (h : Shp n d) : PyData.eqv d d = true := SeqAt.eqv_refl d h.1
end Bd
namespace Bd
open PySem PySem.Spec PyProof.Rows L2 HT
/-! ### a def that is run where no text of an object is being made -/
structure FnG (P : Program) (w : World) (K : PySem.W.Frag) (mg : Str → Option Value) (base : Heap) (k : Nat) (f : Addr) (fd : FuncData) (ps : List Str) (sp : Sp) : Prop where
  len : ∀ vs H Q E, sp vs H Q E → vs.length = ps.length
  run : ∀ (A : Around) (outer : List Env) (s : Shared) (H : Hp) (args : Args) (us : List Value) (vs : List V) (Q : VK) (E : XK), A.guards = some [] → Room k A → Env0 P w K mg base A outer s H → BindsTo s fd args (ps.zip us) → Vals vs us → sp vs H Q E →
    codeAny (model P w) A (.call (.ref f) args) (CR CX0 outer P w H s Q E) s
section
variable {P : Program} {w : World} {K : PySem.W.Frag} {mg : Str → Option Value} {base : Heap}
theorem fnG_of {x qual : Str} {st : Stmt} {f : Addr} {fd : FuncData} {N ps : List Str} {k : Nat} {sp : Sp} (F : Fun K x qual st f fd) (S : FnScope N ps (defScope st)) (len : ∀ vs H Q E, sp vs H Q E → vs.length = ps.length)
    (body : ∀ (cdv : Value) (A : Around) (outer : List Env) (s : Shared) (H : Hp) (vs : List V) (Q : VK) (E : XK), Room k (A.deeper (envOfC qual (defScope st) s.heap.objs.size f cdv)) → (A.deeper (envOfC qual (defScope st) s.heap.objs.size f cdv)).guards = some [] → sp vs H Q E →
      ∃ t, PSs (cxOf CX0 P w K mg base N qual (defScope st) f cdv A outer s H E).nox (defBody st) t ∧ t { nx := fun _ H' => Q .non H', rt := Q } (start N vs) H) : FnG P w K mg base (k + 1) f fd ps sp where
  len := len
  run := by
    obtain ⟨oc, od, kV, doc, pm, an, cdv, ct, osl, rfl, lk, hcd⟩ := F.ex
    intro A outer s H args us vs Q E hg room env bnd vls hs
    have here : K.In s.heap := env.mod.kin.keeps fun b o h => (env.bs b o h).1
    have cells : ∀ y ∈ ps.zip us, (defScope st).names.lookup y.1 = some .local ∨ ((defScope st).names.lookup y.1 = some .cell ∧ ((cellsFrom (s.heap.objs.size + 1) (defScope st).names []).lookup y.1).isSome = true) := by
      rintro ⟨n, v⟩ hy
      cases S.par n (List.of_mem_zip hy).1 with
      | inl q => exact .inl q
      | inr q => exact .inr ⟨q, PySem.W.cellsFrom_some _ _ _ (.inl q)⟩
    refine codeAny_call_function room.depth (here _ _ lk) rfl S.co S.gen rfl (PySem.W.codeRec_of here hcd) (bnd _ _ _ _ (wpAny_newFunctionEnv_cells S.kind cells ?_))
    rintro e rfl s1 inc
    refine ⟨Heap.NoLimit.keeps (env.mod.nolimit.keeps fun b o h => (env.bs b o h).1) inc.toInCall.keep, codeAny_func ?_⟩
    obtain ⟨t, hp, ht⟩ := body cdv A outer s H vs Q E (room.deeper _) hg hs
    have I := inv_start (CX := CX0) (P := P) (w := w) (K := K) (mg := mg) (base := base) (qual := qual) (f := f) (cd := cdv) (E := E) S room.hd env (len _ _ _ _ hs) vls inc
    refine wpAny_mono (hp.nox.run [] s1 (start N vs) H _ I ht) (fun r s2 h => ?_) fun _ _ h => h
    match r, h with
    | .ret u, ⟨v, _, H2, J, rv, q⟩ => exact ⟨v, H2, J.os, J.bare, J.base, J.hok, rv, q⟩
    | .next, ⟨_, H2, J, q⟩ => exact ⟨V.non, H2, J.os, J.bare, J.base, J.hok, rfl, q⟩
    | .brk, ⟨_, _, _, q⟩ => exact q.elim
    | .cont, ⟨_, _, _, q⟩ => exact q.elim
/-- what promises more widely promises here too -/
theorem FnG.of {k : Nat} {f : Addr} {fd : FuncData} {ps : List Str} {sp : Sp} (F : FnOk P w K mg base CX0 k f fd ps sp) : FnG P w K mg base k f fd ps sp :=
  ⟨F.len, fun A outer s H args us vs Q E _ => F.run A outer s H args us vs Q E⟩
end
end Bd
namespace Bd
open PySem PySem.Spec PyProof.Rows L2 HT
/-! ### the law's own call -/
section
variable {P : Program} {w : World} {K : PySem.W.Frag} {mg mb : Str → Option Value} {k : Nat} {fa a : Addr} {fd : FuncData} {x : Str} {sp : Sp} {s₁ : Shared} {vs : List Value} {ns : List Int}
/-- from a heap in which the script alone may be tracked -/
theorem runG (KX : K.In s₁.heap) (hns : s₁.heap.Ns mainGlobals mg) (hb : s₁.heap.Ns builtinsNs mb) (hbb : ∀ x : Str, x ≠ "__name__" → mb x = bootBuiltins x) (hlim : s₁.heap.NoLimit) (hg : s₁.gens = #[])
    (ha : s₁.heap.get? a = some { cls := .type "list", data := .seq vs.toArray }) (hr : Room k callerA)
    (F : ∀ base : Heap, K.In base → base.Ns mainGlobals mg → FnG P w K mg base k fa fd [x] sp) (hbind : ∀ (s : Shared) (u : Value), BindsTo s fd ⟨[u], []⟩ [(x, u)])
    (H : Hp) (only : ∀ b u, H b = some u → b = a ∧ ∃ xs, u = .frz { cls := .type "list", data := .seq vs.toArray } (.lst xs)) (hok : HOk P w H s₁.heap) (apart : H a = none ∨ K.lookup a = none)
    (hsp : sp [.ref a] H (fun v _ => v = .bl true) fun _ _ _ => False) :
    codeAny (model P w) callerA (.call (.ref fa) ⟨[.ref a], []⟩) (fun r s' => r = .ok (.ret (.bool true)) ∧ OldK s₁.heap s'.heap ∧ s'.os = s₁.os ∧ AllBare s'.gens) s₁ := by
  have vis : ∀ {b : Addr} {o : Obj}, s₁.heap.get? b = some o → (b ≠ a ∨ H a = none) → (hidT s₁.heap H).get? b = some o := by
    intro b o e h
    refine hidT_get e ?_
    cases q : H b with
    | none => rfl
    | some u =>
      obtain ⟨rfl, _⟩ := only b u q
      rcases h with h | h
      · exact absurd rfl h
      · rw [q] at h; cases h
  have dicts : ∀ {b : Addr} {o : Obj} {es : Array DictEntry} {ep : Nat}, s₁.heap.get? b = some o → o.data = .dict es ep → (hidT s₁.heap H).get? b = some o := by
    intro b o es ep e d
    refine vis e (.inl fun z => ?_)
    rw [z, ha] at e
    cases e
    cases d
  have names : ∀ {b : Addr} {m : Str → Option Value}, s₁.heap.Ns b m → (hidT s₁.heap H).Ns b m := by
    rintro b m ⟨o, es, ep, e, d, r⟩
    exact ⟨o, es, ep, dicts e d, d, r⟩
  have KI : K.In (hidT s₁.heap H) := by
    intro b o e
    refine vis (KX b o e) ?_
    rcases apart with z | z
    · exact .inr z
    · refine .inl fun q => ?_
      rw [q, z] at e
      cases e
  have env : Env0 P w K mg (hidT s₁.heap H) callerA [] s₁ H := by
    refine ⟨rfl, ⟨KI, names hns, ⟨mb, names hb, hbb⟩, ?_⟩, fun b o e => of_hidT e, by rw [hidT_size]; exact Nat.le_refl _, trivial, fun b z => (nomatch z), hok, .of_eq hg⟩
    obtain ⟨mc, q1, q2⟩ := hlim
    exact ⟨mc, names q1, q2⟩
  refine codeAny_mono ((F _ KI (names hns)).run callerA [] s₁ H ⟨[.ref a], []⟩ [.ref a] [.ref a] _ _ rfl hr env (hbind s₁ (.ref a)) (.cons rfl .nil) hsp) ?_
  rintro r s' h
  match r, h with
  | .error e, h => exact h.elim
  | .ok (.next), h => exact h.elim
  | .ok (.brk), h => exact h.elim
  | .ok (.cont), h => exact h.elim
  | .ok (.ret u), ⟨v, H2, os, bare, un, ok2, rv, q⟩ =>
    obtain rfl : v = .bl true := q
    obtain rfl : u = Value.bool true := rv
    refine ⟨rfl, OldK.of_keep ?_, os, bare⟩
    intro b o e
    cases q : H b with
    | none => exact un.keep b o e q (fun z => nomatch z) (fun z => nomatch z)
    | some u =>
      obtain ⟨rfl, xs, rfl⟩ := only b u q
      have e1 := (hok _ _ q).1
      have e2 := (ok2 _ _ (un.frzs _ _ _ q)).1
      exact e2.trans (e1.symm.trans e)
end
theorem walkG {l : PySem.W.OpenLaw} {k : Nat} {q : Program} {loose : List Str} {XP : (Str → Option Value) → Heap → Prop} {YP : World → Heap → Prop} {d : DefRec} {K : Params → PySem.W.Frag} {sp : PySem.W.Frag → Sp} {x : Str}
    (hn : l.most = some 63) (hdf : d.params.defaults = []) (hr : Room k callerA) (hY : ∀ (w : World) (h : Heap), YP w h → (K w.params).In h)
    (F : ∀ (w : World) (mg : Str → Option Value) (fa : Addr) (h : Heap), (K w.params).In h → h.Ns mainGlobals mg → mg d.name = some (.ref fa) →
      ∃ fd : FuncData, (∀ (s : Shared) (u : Value), BindsTo s fd ⟨[u], []⟩ [(x, u)]) ∧ ∀ base : Heap, (K w.params).In base → base.Ns mainGlobals mg → FnG l.prog w (K w.params) mg base k fa fd [x] (sp (K w.params)))
    (hsp : ∀ (K : PySem.W.Frag) (H : Hp) (a : Addr) (ns : List Int), ns.length ≤ 63 → SqL K H a (ns.map V.int) → sp K [.ref a] H (fun v _ => v = .bl true) fun _ _ _ => False) :
    PySem.W.WalkO q loose XP YP l.row.toRowW d [] (fun f vs => PySem.call f vs) := by
  refine Att.attach_call hn hdf ?_
  intro w s₀ s₁ mg mb fa o pm cd doc a vs ns G Y ho hd hcd hmg hobj hints hlen hg
  have KX := hY w _ Y
  obtain ⟨fd, hbind, hF⟩ := F w mg fa _ KX G.T.g hmg
  have hz : ns.length ≤ sizeLine := Nat.le_trans hlen (by decide)
  have rv := vals_ints hints
  have lv := hints.length
  by_cases e : (K w.params).lookup a = none
  · refine runG KX G.T.g G.T.b G.T.builtins G.T.nolimit hg hobj hr hF hbind (upd (fun _ => none) a (.frz { cls := .type "list", data := .seq vs.toArray } (.lst (ns.map V.int)))) ?_ ?_ (.inr e) (hsp _ _ _ ns hlen (.inl (.inr ⟨_, upd_same⟩)))
    · intro b u z
      by_cases h : b = a
      · subst h
        rw [upd_same] at z
        cases z
        exact ⟨rfl, _, rfl⟩
      · rw [upd_ne h] at z
        cases z
    · intro b u z
      by_cases h : b = a
      · subst h
        rw [upd_same] at z
        cases z
        exact ⟨hobj, by rw [List.length_map]; exact hz, vs, _, rv, hobj⟩
      · rw [upd_ne h] at z
        cases z
  · obtain ⟨ob, e2⟩ := Option.ne_none_iff_exists'.mp e
    have e3 := KX a ob e2
    rw [hobj] at e3
    cases e3
    refine runG KX G.T.g G.T.b G.T.builtins G.T.nolimit hg hobj hr hF hbind (fun _ => none) (fun _ _ z => nomatch z) (fun _ _ z => nomatch z) (.inl rfl) (hsp _ _ _ ns hlen (.inr ⟨_, vs.toArray, _, e2, rfl, rfl, rfl, ?_, by simpa using rv⟩))
    rw [List.size_toArray, lv]
    exact hz
end Bd
namespace Bd
open PySem PySem.Spec PyProof.Rows L2 HT
/-! ### texts of data -/
/-- data that has a text of bounded size: W bounds its weight -/
structure Rp (d : PyData) (n W : Nat) : Prop where
  lay : d.canLay0 = true
  dep : d.depth ≤ n
  sho : d.showable = true
  sml : d.leavesShort 100 = true
  wei : d.weight ≤ W
theorem rp_int {i : Int} (h0 : -(2 ^ 90) < i) (h1 : i < 2 ^ 90) : Rp (.int i) 0 90 := by
  have hl : i.natAbs.log2 < 90 := PySem.Flt.log2_lt_of (by decide) (by omega)
  refine ⟨rfl, Nat.le_refl _, ?_, ?_, ?_⟩
  · show decide (i.natAbs.log2 < 1920) = true
    exact decide_eq_true (by omega)
  · show decide ((PyData.shown (.int i)).length ≤ 100) = true
    refine decide_eq_true ?_
    show (Str.ofString (toString i)).length ≤ 100
    rw [PySem.ofString_length]
    have := int_text_length_le (a := i) (k := 90) (by decide) hl
    omega
  · show (if i == 0 then 0 else i.natAbs.log2 + 1) ≤ 90
    split <;> omega
theorem rp_all {n W : Nat} : ∀ {xs : List PyData}, (∀ x ∈ xs, Rp x n W) → PyData.canLayAll0 xs = true ∧ PyData.depthAll xs ≤ n ∧ PyData.showableAll xs = true ∧ PyData.leavesShortAll 100 xs = true ∧ PyData.weightAll xs ≤ xs.length * (W + 1)
  | [], _ => ⟨rfl, Nat.zero_le _, rfl, rfl, Nat.zero_le _⟩
  | x :: xs, h => by
    obtain ⟨a1, a2, a3, a4, a5⟩ := h x List.mem_cons_self
    obtain ⟨b1, b2, b3, b4, b5⟩ := rp_all (xs := xs) fun y hy => h y (List.mem_cons_of_mem _ hy)
    refine ⟨by rw [PyData.canLayAll0, a1, b1]; rfl, by rw [PyData.depthAll]; exact Nat.max_le.mpr ⟨a2, b2⟩, by rw [PyData.showableAll, a3, b3]; rfl, by rw [PyData.leavesShortAll, a4, b4]; rfl, ?_⟩
    rw [PyData.weightAll, List.length_cons, Nat.succ_mul]
    omega
theorem rp_list {n W : Nat} {xs : List PyData} (h : ∀ x ∈ xs, Rp x n W) : Rp (.list xs) (n + 1) (xs.length * (W + 1)) := by
  obtain ⟨a1, a2, a3, a4, a5⟩ := rp_all h
  exact ⟨by rw [PyData.canLay0]; exact a1, by rw [PyData.depth]; omega, by rw [PyData.showable]; exact a3, by rw [PyData.leavesShort]; exact a4, by rw [PyData.weight]; exact a5⟩
theorem rp_tup {n W : Nat} {xs : List PyData} (h : ∀ x ∈ xs, Rp x n W) : Rp (.tuple xs) (n + 1) (xs.length * (W + 1)) := by
  obtain ⟨a1, a2, a3, a4, a5⟩ := rp_all h
  exact ⟨by rw [PyData.canLay0]; exact a1, by rw [PyData.depth]; omega, by rw [PyData.showable]; exact a3, by rw [PyData.leavesShort]; exact a4, by rw [PyData.weight]; exact a5⟩
theorem Rp.up {d : PyData} {n m W V : Nat} (h : Rp d n W) (h1 : n ≤ m) (h2 : W ≤ V) : Rp d m V := ⟨h.lay, Nat.le_trans h.dep h1, h.sho, h.sml, Nat.le_trans h.wei h2⟩
theorem Rp.fits {d : PyData} {n W : Nat} (h : Rp d n W) (hW : W ≤ 100000) : d.shown.length ≤ sizeLine := by
  have h1 := PyData.shown_le 100 (by decide) d h.sml
  have h2 := h.wei
  rw [sizeLine_eq]
  omega
section
variable {X : Cx}
/-- repr of data at any depth -/
theorem call_reprD (hg : X.A.guards = some []) (hu : X.A.units + 64 < cLine) : CallR X (.builtin "repr") (fun xs H Q => ∃ (a : Addr) (d : PyData) (n W : Nat), xs = [.ref a] ∧ Dp X.K H (.ref a) d ∧ Rp d n W ∧ n ≤ 50 ∧ W ≤ 100000 ∧ Q (.str d.shown) H) := by
  intro pins s σ H xs us Q I r h
  obtain ⟨a, d, n, W, rfl, hd, hr, hn, hW, q⟩ := h
  obtain ⟨u, rfl, rx⟩ := vals1 r
  cases (show u = Value.ref a from rx)
  obtain ⟨as, rd⟩ := Dp.reads I d (.ref a) (.ref a) hd rfl
  refine repr_of_reads' rd hr.sho (PyData.noDict_hsm (PyData.hasDict_of_canLay d hr.lay)) hg (by have := hr.dep; omega) (fun b o e => e) (fun h' u tk hk => ?_) (hr.fits hW)
  exact ⟨.str d.shown, H, I.kept hk, ⟨u, rfl⟩, q⟩
end
end Bd
namespace Bd
open PySem PySem.Spec PyProof.Rows L2 HT
theorem rp_two {d e : PyData} {n W : Nat} (h1 : Rp d n W) (h2 : Rp e n W) : Rp (.list [d, e]) (n + 1) (2 * (W + 1)) := rp_list fun x hx => by
  rcases List.mem_cons.mp hx with rfl | hx
  · exact h1
  · rcases List.mem_cons.mp hx with rfl | hx
    · exact h2
    · cases hx
theorem rp_nat {i : Nat} (h : i ≤ 100) : Rp (.int i) 0 90 := rp_int (by omega) (by omega)
theorem rp_pair {p : Nat × Nat} (h1 : p.1 ≤ 100) (h2 : p.2 ≤ 100) : Rp (pairD p) 1 182 := rp_tup (n := 0) (W := 90) (xs := [.int p.1, .int p.2]) fun x hx => by
  rcases List.mem_cons.mp hx with rfl | hx
  · exact rp_nat h1
  · rcases List.mem_cons.mp hx with rfl | hx
    · exact rp_nat h2
    · cases hx
theorem rp_house {rooms : Nat} {ds : List (Nat × Nat)} (h : Doors rooms ds) (h1 : rooms ≤ 100) (h2 : ds.length ≤ 100) : Rp (houseD rooms ds) 3 40000 := by
  have hd : Rp (doorsD ds) 2 18300 := by
    have := rp_list (n := 1) (W := 182) (xs := ds.map pairD) fun x hx => by
      obtain ⟨p, hp, rfl⟩ := List.mem_map.mp hx
      obtain ⟨q1, q2, _⟩ := h p hp
      exact rp_pair (by omega) (by omega)
    refine this.up (by decide) ?_
    rw [List.length_map]
    omega
  have := rp_tup (n := 2) (W := 18300) (xs := [.int rooms, doorsD ds]) fun x hx => by
    rcases List.mem_cons.mp hx with rfl | hx
    · exact (rp_nat h1).up (by decide) (by decide)
    · rcases List.mem_cons.mp hx with rfl | hx
      · exact hd
      · cases hx
  exact this.up (by decide) (by show 2 * (18300 + 1) ≤ 40000; decide)
theorem rp_ints {cs : List Int} (h : ∀ x ∈ cs, 0 ≤ x ∧ x < 10 ^ 20) (h2 : cs.length ≤ 100) : Rp (.list (cs.map .int)) 3 40000 := by
  have := rp_list (n := 0) (W := 90) (xs := cs.map .int) fun x hx => by
    obtain ⟨i, hi, rfl⟩ := List.mem_map.mp hx
    obtain ⟨q1, q2⟩ := h i hi
    exact rp_int (by omega) (by omega)
  refine this.up (by decide) ?_
  rw [List.length_map]
  omega
theorem leave_one (r : Nat) : ∀ z : List Dc, (∀ x ∈ z, x.1.1 ≠ x.1.2) → leaveM z [r] = metAt z r := by
  intro z h
  rw [← atRoom_sum r z h]
  unfold leaveM
  have e : z.filter (lvAt [r]) = z.filter (atRoom r) := by
    refine List.filter_congr fun x hx => ?_
    have hn := h x hx
    unfold lvAt atRoom
    by_cases c1 : x.1.1 = r
    · have c2 : ¬ x.1.2 = r := fun q => hn (c1.trans q.symm)
      simp [c1, c2]
    · by_cases c2 : x.1.2 = r
      · have c3 : ¬ r = x.1.1 := fun q => c1 q.symm
        simp [c1, c2, c3]
      · have c3 : ¬ r = x.1.1 := fun q => c1 q.symm
        have c4 : ¬ r = x.1.2 := fun q => c2 q.symm
        simp [c1, c2, c3, c4]
  rw [e]
def spLaw (K : PySem.W.Frag) : Sp := fun vs H Q _ => ∃ (a : Addr) (ns : List Int), vs = [.ref a] ∧ SqL K H a (ns.map V.int) ∧ ns.length ≤ 63 ∧ ∀ H', Q (.bl true) H'
end Bd
set_option maxHeartbeats 3200000
namespace Bd
open PySem PySem.Spec PyProof.Rows L2
section
variable {P : Program} {w : World} {A : Around} {E : Value → Shared → Prop} {s : Shared}
/-- a set as it is made -/
abbrev bare (w : World) : Obj := { cls := .type "set", dict := none, data := .set #[] 0 (.fresh 0 0 (!w.params.followText "set-order")) }
theorem call_set_ints {l : Addr} {its : Array Value} (ns : List Int) {Q : Value → Shared → Prop} (hh : A.handled = none) (hl : s.heap.IsList l its) (hit : IntsAre its.toList ns) (hb : ns.length + 1 < scanBound)
    (h : ∀ (h' : Heap) (tk c : Nat), SetR w h' s.heap.objs.size (fun j => decide (j ∈ ns)) c → c ≤ ns.length → (∀ b o, s.heap.get? b = some o → h'.get? b = some o) → Q (.ref s.heap.objs.size) { s with heap := h', toks := tk }) :
    wpAny (model P w) A (call (.type "set") [.ref l]) Q E s := by
  have size : its.size = ns.length := (Array.length_toList (xs := its)).symm.trans (IntsAre.length hit)
  obtain ⟨c, tl, mro⟩ := F.called_set.mro
  have f1 := F.called_set.made; have f2 := F.called_set.sub; have f3 := F.called_set.notType; have f4 := F.called_set.canCreate; have f5 := F.typeCall_set_1 (.ref l)
  refine wpAny_call (codeAny_of_tree (show wpAny _ _ (callAny (.type "set") _) _ _ _ from wpAny_pure ⟨Code.quiet_builtin _ (by decide +kernel), codeAny_builtin F.entry_type_call ?_⟩))
  rw [Around.under_plain (weight_type_call_type "set" [.ref l] []) rfl]; repeat (any_goals (first | assumption | wp_step))
  refine codeAny_mono (code_set_led1 (.ref l) (E := E) (Q₁ := fun obj z => obj = .ref s.heap.objs.size ∧ z = { s with heap := s.heap.push (bare w) }) ⟨rfl, rfl⟩) fun r z hr => ?_
  match r, hr with
  | .error e, hr => exact hr
  | .ok .next, hr => exact hr.elim
  | .ok .brk, hr => exact hr.elim
  | .ok .cont, hr => exact hr.elim
  | .ok (.ret obj), hr =>
    obtain ⟨rfl, rfl⟩ := hr
    have g0 : (s.heap.push (bare w)).get? s.heap.objs.size = some (bare w) := Heap.get?_push_size _ rfl
    have g1 : Shared.TypeIs { s with heap := s.heap.push (bare w) } (.ref s.heap.objs.size) "set" := ⟨_, g0, rfl⟩
    have g2 := F.called_set.init.lookup; have g3 := F.called_set.init.bind (.ref s.heap.objs.size)
    repeat (any_goals (first | assumption | wp_step))
    refine codeAny_mono (codeAny_call_builtin (R := wants (fun r z => r = .none ∧ ∃ h' tk c, z = { s with heap := h', toks := tk } ∧ SetR w h' s.heap.objs.size (fun j => decide (j ∈ ns)) c ∧ c ≤ ns.length ∧ (∀ b o, s.heap.get? b = some o → h'.get? b = some o)) E)
      F.called_set.init.plain F.entry_set_init (check_set_init_1 g1 ?_)) fun r2 z2 hr2 => ?_
    · obtain ⟨⟨ocls, odict, odata, oslots⟩, hol, hcl, nl, hdl⟩ := hl
      simp only at hcl hdl; subst hcl; subst hdl
      have q0 : (s.heap.push (bare w)).get? l = some { cls := .type "list", dict := odict, data := .seq its nl, slots := oslots } := Heap.get?_push_of_some _ hol
      have q1 := F.sub_list_set; have q2 := F.sub_list_frozenset
      have q3 : (Value.type "list" == Value.type "dict") = false := by decide
      have q4 : (s.heap.push (bare w)).IsList l its := ⟨_, q0, rfl, nl, rfl⟩
      unfold Builtin.«set.__init__» noKeywords Builtin.Frozenset.updateFrom; generalize hPI : pyIter = PI; wp_walk; subst hPI
      refine wpAny_pyIter_list q4 (wpAny_bind (wpAny_runValue ?_))
      have lS : l < s.heap.objs.size := Heap.lt_size hol
      have calm : A.in1.in1.in1.handled = none := by simp [hh]
      have sz : (s.heap.push (bare w)).objs.size = s.heap.objs.size + 1 := Heap.size_push ..
      have ne : l ≠ (s.heap.push (bare w)).objs.size := by rw [sz]; exact Nat.ne_of_lt (Nat.lt_succ_of_lt lS)
      have out : s.heap.objs.size ∉ [(s.heap.push (bare w)).objs.size, l] := by
        rw [sz]
        intro z
        rcases List.mem_cons.mp z with z | z
        · omega
        · exact absurd (List.mem_singleton.mp z) (Nat.ne_of_gt lS)
      have val : ∀ (i : Nat) (v : Value), its[i]? = some v → ∃ k t, ns[i]? = some k ∧ v = .int k t := by
        intro i v hv
        have hi : i < ns.length := by rw [← size]; exact (Array.getElem?_eq_some_iff.mp hv).1
        obtain ⟨t, e⟩ := PyProof.Rows.IntsAre.int_at hit i v (by rw [Array.getElem?_toList]; exact hv)
        exact ⟨ns[i], t, List.getElem?_eq_getElem hi, by rw [e, List.getD_eq_getElem?_getD, List.getElem?_eq_getElem hi]; rfl⟩
      refine set_update_ints ((Walks.list calm _ l ne its).toS) s.heap.objs.size out ns size hb val (its.size - 0) 0 _ (by omega) (Nat.zero_le _) ⟨⟨_, Heap.get?_push_size _ rfl, rfl, rfl⟩, (q4.push _)⟩ ⟨0, Nat.le_refl 0, setR_new_at (Heap.get?_push_of_some _ g0)⟩ ?_
      rintro ⟨h', g', d', tk', os'⟩ c' hm hc' hS'
      have eg : g' = s.gens := hm.gens; have ed : d' = s.drawn := hm.drawn; have eo : os' = s.os := hm.os
      subst eg; subst ed; subst eo
      show wpAny _ _ _ _ _ _
      refine wpAny_pure (show wpAny _ _ (ret Value.none) _ _ _ from wpAny_pure ⟨rfl, h', tk', c', rfl, hS', by omega, fun b o e => ?_⟩)
      have b0 : b < s.heap.objs.size := Heap.lt_size e
      refine hm.heap b o (fun z => ?_) (Heap.get?_push_of_some _ (Heap.get?_push_of_some _ e))
      rcases List.mem_cons.mp z with z | z
      · exact absurd z (Nat.ne_of_lt b0)
      · exact absurd ((List.mem_singleton.mp z).trans sz) (Nat.ne_of_lt (Nat.lt_succ_of_lt b0))
    · match r2, hr2 with
      | .error e, h2 => exact h2
      | .ok .next, h2 => exact h2.elim
      | .ok .brk, h2 => exact h2.elim
      | .ok .cont, h2 => exact h2.elim
      | .ok (.ret _), h2 =>
        obtain ⟨rfl, h', tk, c', rfl, hS', hc', hk'⟩ := h2
        repeat (any_goals (first | assumption | wp_step))
        exact h _ _ _ hS' hc' hk'
end
section
variable {X : Cx}
/-- set(xs), a list of ints -/
def rSetOfL (K : PySem.W.Frag) (w : World) : List V → Hp → VK → Prop := fun as H Q => ∃ (l : Addr) (ns : List Int), as = [.ref l] ∧ SqL K H l (ns.map V.int) ∧ ns.length ≤ 1000 ∧
  ∀ p c, H p = none → c ≤ ns.length → Q (.ref p) (upd H p (SetO w p (fun j => decide (j ∈ ns)) c))
theorem call_setL (hc : X.calm = true) : CallR X (.type "set") (rSetOfL X.K X.w) := by
  intro pins s σ H as us Q I r h
  obtain ⟨l, ns, rfl, hq, hn, q⟩ := h
  obtain ⟨u, rfl, rx⟩ := vals1 r
  cases (show u = Value.ref l from rx)
  obtain ⟨its, rv, hl, hz⟩ := I.list hq
  refine call_set_ints ns (I.ok.hd hc) hl.isList (by simpa using intsAre_of rv) (by unfold scanBound; omega) fun h' tk c S hc k => ?_
  have new : H s.heap.objs.size = none := I.hok.fresh (Nat.le_refl _)
  exact ⟨.ref s.heap.objs.size, upd H s.heap.objs.size (SetO X.w s.heap.objs.size (fun j => decide (j ∈ ns)) c), I.laid (t' := tk) k (Nat.le_refl _) (setO_new S), rfl, q _ _ new hc⟩
end
end Bd
namespace Bd
open PySem PySem.Spec PyProof.Rows L2 HT
/-! ### parts, by leaders -/
def relab (L : List Nat) (a b : Nat) : List Nat := L.map fun v => if v = max (L.getD a 0) (L.getD b 0) then min (L.getD a 0) (L.getD b 0) else v
def leadStep (L : List Nat) (x : Dc) : List Nat := if 0 < x.2 then relab L x.1.1 x.1.2 else L
def leadL (n : Nat) (z : List Dc) : List Nat := z.foldl leadStep (List.range n)
structure Led (n : Nat) (z : List Dc) (L : List Nat) : Prop where
  len : L.length = n
  low : ∀ r, r < n → L.getD r 0 ≤ r
  idem : ∀ r, r < n → L.getD (L.getD r 0) 0 = L.getD r 0
  eq : ∀ x ∈ z, 0 < x.2 → L.getD x.1.1 0 = L.getD x.1.2 0
  con : ∀ S : Nat → Prop, (∀ x ∈ z, 0 < x.2 → (S x.1.1 ↔ S x.1.2)) → ∀ r, r < n → (S r ↔ S (L.getD r 0))
theorem getD_map {f : Nat → Nat} {L : List Nat} {r : Nat} (h : r < L.length) : (L.map f).getD r 0 = f (L.getD r 0) := by
  rw [List.getD_eq_getElem?_getD, List.getD_eq_getElem?_getD, List.getElem?_map, List.getElem?_eq_getElem h]
  rfl
theorem led_nil (n : Nat) : Led n [] (List.range n) := by
  have e : ∀ r, r < n → (List.range n).getD r 0 = r := fun r h => by
    rw [List.getD_eq_getElem?_getD, List.getElem?_range h]
    rfl
  refine ⟨List.length_range, fun r h => by rw [e r h]; exact Nat.le_refl _, fun r h => by rw [e r h, e r h], (fun x hx => by cases hx), fun S _ r h => by rw [e r h]⟩
theorem led_step {n : Nat} {z : List Dc} {L : List Nat} {x : Dc} (h : Led n z L) (ha : x.1.1 < n) (hb : x.1.2 < n) : Led n (z ++ [x]) (leadStep L x) := by
  unfold leadStep
  by_cases c : 0 < x.2
  · rw [if_pos c]
    have hmax : max (L.getD x.1.1 0) (L.getD x.1.2 0) = L.getD x.1.1 0 ∨ max (L.getD x.1.1 0) (L.getD x.1.2 0) = L.getD x.1.2 0 := by omega
    have hmin : min (L.getD x.1.1 0) (L.getD x.1.2 0) = L.getD x.1.1 0 ∨ min (L.getD x.1.1 0) (L.getD x.1.2 0) = L.getD x.1.2 0 := by omega
    have hle : min (L.getD x.1.1 0) (L.getD x.1.2 0) ≤ max (L.getD x.1.1 0) (L.getD x.1.2 0) := by omega
    have hcov : ∀ v, v = L.getD x.1.1 0 ∨ v = L.getD x.1.2 0 → v = max (L.getD x.1.1 0) (L.getD x.1.2 0) ∨ v = min (L.getD x.1.1 0) (L.getD x.1.2 0) := by intro v hv; omega
    have il : L.getD (min (L.getD x.1.1 0) (L.getD x.1.2 0)) 0 = min (L.getD x.1.1 0) (L.getD x.1.2 0) := by
      rcases hmin with e | e
      · rw [e]; exact h.idem _ ha
      · rw [e]; exact h.idem _ hb
    have ll : min (L.getD x.1.1 0) (L.getD x.1.2 0) < n := by
      have := h.low _ ha
      omega
    generalize hlo : min (L.getD x.1.1 0) (L.getD x.1.2 0) = lo at *
    generalize hhi : max (L.getD x.1.1 0) (L.getD x.1.2 0) = hi at *
    have g : ∀ r, r < n → (relab L x.1.1 x.1.2).getD r 0 = if L.getD r 0 = hi then lo else L.getD r 0 := fun r hr => by
      unfold relab
      rw [getD_map (by rw [h.len]; exact hr), hlo, hhi]
    have lt : ∀ r, r < n → L.getD r 0 < n := fun r hr => Nat.lt_of_le_of_lt (h.low r hr) hr
    have gl : ∀ r, r < n → (relab L x.1.1 x.1.2).getD (L.getD r 0) 0 = if L.getD r 0 = hi then lo else L.getD r 0 := fun r hr => by rw [g _ (lt r hr), h.idem r hr]
    refine ⟨by unfold relab; rw [List.length_map]; exact h.len, fun r hr => ?_, fun r hr => ?_, fun y hy hp => ?_, fun S hS r hr => ?_⟩
    · rw [g r hr]
      have := h.low r hr
      split <;> omega
    · rw [g r hr]
      by_cases e : L.getD r 0 = hi
      · rw [if_pos e, g lo ll, il]
        split <;> rfl
      · rw [if_neg e, gl r hr, if_neg e]
    · rcases List.mem_append.mp hy with hy | hy
      · have hlt := h.eq y hy hp
        by_cases q1 : y.1.1 < n
        · by_cases q2 : y.1.2 < n
          · rw [g _ q1, g _ q2, hlt]
          · -- beyond the rooms both are 0 by default
            have e2 : ∀ M : List Nat, M.length = n → M.getD y.1.2 0 = 0 := fun M hM => by rw [List.getD_eq_getElem?_getD, List.getElem?_eq_none (by omega)]; rfl
            have h2 := e2 L h.len
            have h3 := e2 (relab L x.1.1 x.1.2) (by unfold relab; rw [List.length_map]; exact h.len)
            rw [h3, g _ q1, hlt, h2]
            split <;> omega
        · have e1 : ∀ M : List Nat, M.length = n → M.getD y.1.1 0 = 0 := fun M hM => by rw [List.getD_eq_getElem?_getD, List.getElem?_eq_none (by omega)]; rfl
          have h2 := e1 L h.len
          have h3 := e1 (relab L x.1.1 x.1.2) (by unfold relab; rw [List.length_map]; exact h.len)
          by_cases q2 : y.1.2 < n
          · rw [h3, g _ q2, ← hlt, h2]
            split <;> omega
          · have e2 : ∀ M : List Nat, M.length = n → M.getD y.1.2 0 = 0 := fun M hM => by rw [List.getD_eq_getElem?_getD, List.getElem?_eq_none (by omega)]; rfl
            rw [h3, e2 (relab L x.1.1 x.1.2) (by unfold relab; rw [List.length_map]; exact h.len)]
      · rw [List.mem_singleton.mp hy, g _ ha, g _ hb]
        have c1 := hcov _ (.inl rfl)
        have c2 := hcov _ (.inr rfl)
        split <;> split <;> omega
    · have base := h.con S (fun y hy => hS y (List.mem_append_left _ hy))
      have hx := hS x (List.mem_append_right _ (List.mem_singleton.mpr rfl)) c
      have sa := base _ ha
      have sb := base _ hb
      have same : S lo ↔ S hi := by
        have e1 : S (L.getD x.1.1 0) ↔ S (L.getD x.1.2 0) := sa.symm.trans (hx.trans sb)
        rcases hmin with e | e <;> rcases hmax with e' | e' <;> rw [e, e'] <;> first | exact Iff.rfl | exact e1 | exact e1.symm
      rw [g r hr]
      by_cases e : L.getD r 0 = hi
      · rw [if_pos e, same, ← e]; exact base r hr
      · rw [if_neg e]; exact base r hr
  · rw [if_neg c]
    refine ⟨h.len, h.low, h.idem, fun y hy hp => ?_, fun S hS r hr => h.con S (fun y hy => hS y (List.mem_append_left _ hy)) r hr⟩
    rcases List.mem_append.mp hy with hy | hy
    · exact h.eq y hy hp
    · rw [List.mem_singleton.mp hy] at hp
      exact absurd hp c
theorem leadL_snoc (n : Nat) (z : List Dc) (x : Dc) : leadL n (z ++ [x]) = leadStep (leadL n z) x := by
  unfold leadL
  rw [List.foldl_append]
  rfl
theorem led_all {n : Nat} : ∀ z : List Dc, (∀ x ∈ z, x.1.1 < n ∧ x.1.2 < n) → Led n z (leadL n z) := by
  intro z
  induction hz : z.length generalizing z with
  | zero =>
    intro _
    rw [List.length_eq_zero_iff.mp hz]
    exact led_nil n
  | succ m ih =>
    intro h
    obtain ⟨y, x, rfl⟩ : ∃ y x, z = y ++ [x] := ⟨z.dropLast, z.getLast (by intro e; rw [e] at hz; cases hz), (List.dropLast_concat_getLast _).symm⟩
    have hy : y.length = m := by
      rw [List.length_append] at hz
      exact Nat.succ.inj hz
    have hx := h x (by simp)
    rw [leadL_snoc]
    exact led_step (ih y hy fun w hw => h w (List.mem_append_left _ hw)) hx.1 hx.2
end Bd
namespace Bd
open PySem PySem.Spec PyProof.Rows L2 HT
/-! ### parts, by marks that run along doors -/
def markStep (M : List Nat) (x : Dc) : List Nat := if 0 < x.2 then (M.set x.1.1 (min (M.getD x.1.1 0) (M.getD x.1.2 0))).set x.1.2 (min (M.getD x.1.1 0) (M.getD x.1.2 0)) else M
def markTurn (z : List Dc) (M : List Nat) : List Nat := z.foldl markStep M
def markTurns (z : List Dc) : Nat → List Nat → List Nat
  | 0, M => M
  | k + 1, M => markTurn z (markTurns z k M)
structure Mkd (n : Nat) (L M : List Nat) : Prop where
  len : M.length = n
  low : ∀ r, r < n → M.getD r 0 ≤ r
  same : ∀ r, r < n → L.getD (M.getD r 0) 0 = L.getD r 0
theorem getD_set {M : List Nat} {a r v : Nat} (h : a < M.length) : (M.set a v).getD r 0 = if r = a then v else M.getD r 0 := by
  rw [List.getD_eq_getElem?_getD, List.getD_eq_getElem?_getD]
  by_cases e : r = a
  · subst e
    rw [List.getElem?_set_self h, if_pos rfl]
    rfl
  · rw [List.getElem?_set_ne (fun q => e q.symm), if_neg e]
theorem getD_step {n : Nat} {M : List Nat} {x : Dc} (h : M.length = n) (ha : x.1.1 < n) (hb : x.1.2 < n) (c : 0 < x.2) (r : Nat) :
    (markStep M x).getD r 0 = if r = x.1.1 ∨ r = x.1.2 then min (M.getD x.1.1 0) (M.getD x.1.2 0) else M.getD r 0 := by
  unfold markStep
  rw [if_pos c, getD_set (by rw [List.length_set, h]; exact hb), getD_set (by rw [h]; exact ha)]
  by_cases e2 : r = x.1.2
  · rw [if_pos e2, if_pos (.inr e2)]
  · by_cases e1 : r = x.1.1
    · rw [if_neg e2, if_pos e1, if_pos (.inl e1)]
    · rw [if_neg e2, if_neg e1, if_neg (fun q => q.elim e1 e2)]
section
variable {n : Nat} {z : List Dc} {L M : List Nat}
theorem Mkd.le (h : Mkd n L M) (hL : Led n z L) {r : Nat} (hr : r < n) : L.getD r 0 ≤ M.getD r 0 := by
  rw [← h.same r hr]
  exact hL.low _ (Nat.lt_of_le_of_lt (h.low r hr) hr)
theorem mkd_step {x : Dc} (h : Mkd n L M) (hL : Led n z L) (hx : x ∈ z) (ha : x.1.1 < n) (hb : x.1.2 < n) : Mkd n L (markStep M x) := by
  by_cases c : 0 < x.2
  · have e := hL.eq x hx c
    have l1 := h.low _ ha
    have l2 := h.low _ hb
    have s1 := h.same _ ha
    have s2 := h.same _ hb
    refine ⟨by unfold markStep; rw [if_pos c, List.length_set, List.length_set]; exact h.len, fun r hr => ?_, fun r hr => ?_⟩
    · rw [getD_step h.len ha hb c]
      split
      · rename_i q
        rcases q with rfl | rfl <;> omega
      · exact h.low r hr
    · rw [getD_step h.len ha hb c]
      split
      · rename_i q
        have hm : min (M.getD x.1.1 0) (M.getD x.1.2 0) = M.getD x.1.1 0 ∨ min (M.getD x.1.1 0) (M.getD x.1.2 0) = M.getD x.1.2 0 := by omega
        rcases hm with hm | hm <;> rw [hm] <;> rcases q with rfl | rfl
        · exact s1
        · rw [s1]; exact e
        · rw [s2]; exact e.symm
        · exact s2
      · exact h.same r hr
  · unfold markStep
    rw [if_neg c]
    exact h
/-- a room that has its leader keeps it -/
theorem keep_step {x : Dc} (h : Mkd n L M) (hL : Led n z L) (hx : x ∈ z) (ha : x.1.1 < n) (hb : x.1.2 < n) {r : Nat} (hr : r < n) (e : M.getD r 0 = L.getD r 0) : (markStep M x).getD r 0 = L.getD r 0 := by
  by_cases c : 0 < x.2
  · have h2 := (mkd_step h hL hx ha hb).le hL hr
    have : (markStep M x).getD r 0 ≤ M.getD r 0 := by
      rw [getD_step h.len ha hb c]
      split
      · rename_i q
        rcases q with rfl | rfl <;> omega
      · exact Nat.le_refl _
    omega
  · unfold markStep
    rw [if_neg c]
    exact e
theorem mkd_fold (hL : Led n z L) (hz : ∀ x ∈ z, x.1.1 < n ∧ x.1.2 < n) : ∀ (y : List Dc), (∀ x ∈ y, x ∈ z) → ∀ M, Mkd n L M → Mkd n L (y.foldl markStep M) ∧ ∀ r, r < n → M.getD r 0 = L.getD r 0 → (y.foldl markStep M).getD r 0 = L.getD r 0
  | [], _, M, h => ⟨h, fun _ _ e => e⟩
  | x :: y, hy, M, h => by
    have hx := hy x List.mem_cons_self
    obtain ⟨ha, hb⟩ := hz x hx
    obtain ⟨h1, h2⟩ := mkd_fold hL hz y (fun w hw => hy w (List.mem_cons_of_mem _ hw)) _ (mkd_step h hL hx ha hb)
    exact ⟨h1, fun r hr e => h2 r hr (keep_step h hL hx ha hb hr e)⟩
/-- across a passed door the leader comes over within a turn -/
theorem turn_over (hL : Led n z L) (hz : ∀ x ∈ z, x.1.1 < n ∧ x.1.2 < n) {M : List Nat} (h : Mkd n L M) {x : Dc} (hx : x ∈ z) (c : 0 < x.2) (e : M.getD x.1.1 0 = L.getD x.1.1 0 ∨ M.getD x.1.2 0 = L.getD x.1.2 0) :
    (markTurn z M).getD x.1.1 0 = L.getD x.1.1 0 ∧ (markTurn z M).getD x.1.2 0 = L.getD x.1.2 0 := by
  obtain ⟨ha, hb⟩ := hz x hx
  obtain ⟨u, v, rfl⟩ := List.append_of_mem hx
  unfold markTurn
  rw [List.foldl_append, List.foldl_cons]
  obtain ⟨h1, k1⟩ := mkd_fold hL hz u (fun w hw => List.mem_append_left _ hw) M h
  have h2 := mkd_step h1 hL hx ha hb
  obtain ⟨h3, k3⟩ := mkd_fold hL hz v (fun w hw => List.mem_append_right _ (List.mem_cons_of_mem _ hw)) _ h2
  have eL := hL.eq x hx c
  have l1 := h1.le hL ha
  have l2 := h1.le hL hb
  have e' : (u.foldl markStep M).getD x.1.1 0 = L.getD x.1.1 0 ∨ (u.foldl markStep M).getD x.1.2 0 = L.getD x.1.2 0 := e.elim (fun q => .inl (k1 _ ha q)) (fun q => .inr (k1 _ hb q))
  refine ⟨k3 _ ha ?_, k3 _ hb ?_⟩
  · rw [getD_step h1.len ha hb c, if_pos (.inl rfl)]; omega
  · rw [getD_step h1.len ha hb c, if_pos (.inr rfl)]; omega
def doneM (n : Nat) (L M : List Nat) : Nat := (List.range n).countP fun r => decide (M.getD r 0 = L.getD r 0)
theorem countP_lt {α : Type} {p q : α → Bool} : ∀ {xs : List α}, (∀ x ∈ xs, p x = true → q x = true) → (∃ x ∈ xs, q x = true ∧ p x = false) → xs.countP p < xs.countP q
  | [], _, h => by obtain ⟨x, hx, _⟩ := h; cases hx
  | x :: xs, h, ⟨y, hy, q1, q2⟩ => by
    have hm : xs.countP p ≤ xs.countP q := List.countP_mono_left fun z hz => h z (List.mem_cons_of_mem _ hz)
    rcases List.mem_cons.mp hy with rfl | hy
    · rw [List.countP_cons_of_pos q1, List.countP_cons_of_neg (by rw [q2]; decide)]
      omega
    · have ih := countP_lt (fun z hz => h z (List.mem_cons_of_mem _ hz)) ⟨y, hy, q1, q2⟩
      by_cases c : p x = true
      · rw [List.countP_cons_of_pos c, List.countP_cons_of_pos (h x List.mem_cons_self c)]
        omega
      · rw [List.countP_cons_of_neg c]
        have : xs.countP q ≤ (x :: xs).countP q := by rw [List.countP_cons]; omega
        omega
theorem turn_more (hL : Led n z L) (hz : ∀ x ∈ z, x.1.1 < n ∧ x.1.2 < n) {M : List Nat} (h : Mkd n L M) (hd : ∃ r, r < n ∧ M.getD r 0 ≠ L.getD r 0) : doneM n L M < doneM n L (markTurn z M) := by
  obtain ⟨h1, k1⟩ := mkd_fold hL hz z (fun _ hw => hw) M h
  unfold doneM
  refine countP_lt (fun r hr e => ?_) ?_
  · exact decide_eq_true (k1 r (List.mem_range.mp hr) (of_decide_eq_true e))
  · -- a passed door between one that has its leader and one that has not
    obtain ⟨r, hr, ne⟩ := hd
    have lead : M.getD (L.getD r 0) 0 = L.getD (L.getD r 0) 0 := by
      have hlt : L.getD r 0 < n := Nat.lt_of_le_of_lt (hL.low r hr) hr
      have a1 := h.low _ hlt
      have a2 := h.le hL hlt
      rw [hL.idem r hr] at a2 ⊢
      omega
    by_cases cl : ∀ x ∈ z, 0 < x.2 → (M.getD x.1.1 0 = L.getD x.1.1 0 ↔ M.getD x.1.2 0 = L.getD x.1.2 0)
    · exact absurd ((hL.con (fun q => M.getD q 0 = L.getD q 0) cl r hr).mpr lead) ne
    · obtain ⟨x, q⟩ := Classical.not_forall.mp cl
      obtain ⟨hx, q⟩ := Classical.not_forall.mp q
      obtain ⟨c, q⟩ := Classical.not_forall.mp q
      obtain ⟨ha, hb⟩ := hz x hx
      by_cases e1 : M.getD x.1.1 0 = L.getD x.1.1 0
      · have e2 : ¬ M.getD x.1.2 0 = L.getD x.1.2 0 := fun e2 => q ⟨fun _ => e2, fun _ => e1⟩
        exact ⟨x.1.2, List.mem_range.mpr hb, decide_eq_true (turn_over hL hz h hx c (.inl e1)).2, decide_eq_false e2⟩
      · by_cases e2 : M.getD x.1.2 0 = L.getD x.1.2 0
        · exact ⟨x.1.1, List.mem_range.mpr ha, decide_eq_true (turn_over hL hz h hx c (.inr e2)).1, decide_eq_false e1⟩
        · exact absurd ⟨fun z => absurd z e1, fun z => absurd z e2⟩ q
theorem turns_done (hL : Led n z L) (hz : ∀ x ∈ z, x.1.1 < n ∧ x.1.2 < n) {M : List Nat} (h : Mkd n L M) : ∀ k, Mkd n L (markTurns z k M) ∧ ((∀ r, r < n → (markTurns z k M).getD r 0 = L.getD r 0) ∨ k ≤ doneM n L (markTurns z k M))
  | 0 => ⟨h, .inr (Nat.zero_le _)⟩
  | k + 1 => by
    obtain ⟨h1, h2⟩ := turns_done hL hz h k
    obtain ⟨h3, k3⟩ := mkd_fold hL hz z (fun _ hw => hw) _ h1
    refine ⟨h3, ?_⟩
    rcases h2 with h2 | h2
    · exact .inl fun r hr => k3 r hr (h2 r hr)
    · by_cases d : ∃ r, r < n ∧ (markTurns z k M).getD r 0 ≠ L.getD r 0
      · exact .inr (Nat.lt_of_le_of_lt h2 (turn_more hL hz h1 d))
      · refine .inl fun r hr => k3 r hr ?_
        exact Classical.byContradiction fun q => d ⟨r, hr, q⟩
/-- after as many turns as rooms the marks are the leaders -/
theorem marks_end (hL : Led n z L) (hz : ∀ x ∈ z, x.1.1 < n ∧ x.1.2 < n) : markTurns z n (List.range n) = L := by
  have h0 : Mkd n L (List.range n) := by
    have e : ∀ r, r < n → (List.range n).getD r 0 = r := fun r h => by
      rw [List.getD_eq_getElem?_getD, List.getElem?_range h]
      rfl
    exact ⟨List.length_range, fun r h => by rw [e r h]; exact Nat.le_refl _, fun r h => by rw [e r h]⟩
  obtain ⟨h1, h2⟩ := turns_done hL hz h0 n
  have all : ∀ r, r < n → (markTurns z n (List.range n)).getD r 0 = L.getD r 0 := by
    rcases h2 with h2 | h2
    · exact h2
    · intro r hr
      refine Classical.byContradiction fun ne => ?_
      have : doneM n L (markTurns z n (List.range n)) < (List.range n).countP (fun _ => true) := by
        unfold doneM
        exact countP_lt (fun _ _ _ => rfl) ⟨r, List.mem_range.mpr hr, rfl, decide_eq_false ne⟩
      rw [List.countP_true, List.length_range] at this
      omega
  apply List.ext_getElem?
  intro i
  by_cases hi : i < n
  · have e := all i hi
    rw [List.getD_eq_getElem?_getD, List.getD_eq_getElem?_getD, List.getElem?_eq_getElem (by rw [h1.len]; exact hi), List.getElem?_eq_getElem (by rw [hL.len]; exact hi)] at e
    rw [List.getElem?_eq_getElem (by rw [h1.len]; exact hi), List.getElem?_eq_getElem (by rw [hL.len]; exact hi)]
    exact congrArg some e
  · rw [List.getElem?_eq_none (by rw [h1.len]; omega), List.getElem?_eq_none (by rw [hL.len]; omega)]
end
/-- the lots, by leaders -/
def lotsOf (n : Nat) (L : List Nat) : List (List Nat) := ((List.range n).filter fun m => decide (m ∈ L)).map fun m => (List.range n).filter fun r => decide (L.getD r 0 = m)
end Bd
namespace Bd
open PySem PySem.Spec PyProof.Rows L2 HT
def lotD (l : List Nat) : PyData := .list ((natsL l).map .int)
def lotsD (ls : List (List Nat)) : PyData := .list (ls.map lotD)
theorem rising_eq : ∀ {xs ys : List Int}, xs.Pairwise (· < ·) → ys.Pairwise (· < ·) → (∀ k, k ∈ xs ↔ k ∈ ys) → xs = ys
  | [], [], _, _, _ => rfl
  | [], y :: ys, _, _, h => absurd ((h y).mpr List.mem_cons_self) (fun q => by cases q)
  | x :: xs, [], _, _, h => absurd ((h x).mp List.mem_cons_self) (fun q => by cases q)
  | x :: xs, y :: ys, h1, h2, h => by
    obtain ⟨a1, a2⟩ := List.pairwise_cons.mp h1
    obtain ⟨b1, b2⟩ := List.pairwise_cons.mp h2
    have e : x = y := by
      rcases List.mem_cons.mp ((h x).mp List.mem_cons_self) with e | e
      · exact e
      · rcases List.mem_cons.mp ((h y).mpr List.mem_cons_self) with e' | e'
        · exact e'.symm
        · have := a1 y e'
          have := b1 x e
          omega
    subst e
    have := rising_eq a2 b2 fun k => by
      constructor
      · intro hk
        rcases List.mem_cons.mp ((h k).mp (List.mem_cons_of_mem _ hk)) with e | e
        · have := a1 k hk
          omega
        · exact e
      · intro hk
        rcases List.mem_cons.mp ((h k).mpr (List.mem_cons_of_mem _ hk)) with e | e
        · have := b1 k hk
          omega
        · exact e
    rw [this]
theorem sort_two {x y : Int} {zs : List Int} (p : zs.Perm [x, y]) (s : zs.Pairwise (· ≤ ·)) : zs = [min x y, max x y] := by
  have hl : zs.length = 2 := p.length_eq
  obtain ⟨a, b, rfl⟩ : ∃ a b, zs = [a, b] := by
    match zs, hl with
    | [a, b], _ => exact ⟨a, b, rfl⟩
  have hab : a ≤ b := by
    have := (List.pairwise_cons.mp s).1 b (by simp)
    exact this
  have m1 := (p.mem_iff (a := a)).mp (by simp)
  have m2 := (p.mem_iff (a := b)).mp (by simp)
  have m3 := (p.mem_iff (a := x)).mpr (by simp)
  have m4 := (p.mem_iff (a := y)).mpr (by simp)
  simp only [List.mem_cons, List.not_mem_nil, or_false] at m1 m2 m3 m4
  have e1 : a = min x y := by omega
  have e2 : b = max x y := by omega
  rw [e1, e2]
theorem range_rising (n : Nat) (p : Nat → Bool) : (natsL ((List.range n).filter p)).Pairwise (· < ·) := by
  unfold natsL
  rw [List.pairwise_map]
  refine List.Pairwise.imp (R := (· < ·)) (fun h => by omega) ?_
  exact List.Pairwise.filter _ List.pairwise_lt_range
theorem nats_mem {r : Nat} {l : List Nat} : (r : Int) ∈ natsL l ↔ r ∈ l := by
  unfold natsL
  rw [List.mem_map]
  constructor
  · rintro ⟨x, hx, e⟩
    have : x = r := by omega
    exact this ▸ hx
  · exact fun h => ⟨r, h, rfl⟩
/-- the leaders that there are, rising -/
def kindsL (n : Nat) (L : List Nat) : List Nat := (List.range n).filter fun m => decide (m ∈ L)
theorem kinds_eq {n : Nat} {L : List Nat} {ns : List Int} (hb : ∀ m ∈ L, m < n) (s : ns.Pairwise (· < ·)) (h : ∀ k : Int, k ∈ ns ↔ decide (k ∈ natsL L) = true) : ns = natsL (kindsL n L) := by
  refine rising_eq s (range_rising n _) fun k => ?_
  rw [h, decide_eq_true_iff]
  constructor
  · intro hk
    obtain ⟨r, hr, rfl⟩ := List.mem_map.mp hk
    exact nats_mem.mpr (List.mem_filter.mpr ⟨List.mem_range.mpr (hb r hr), decide_eq_true hr⟩)
  · intro hk
    obtain ⟨r, hr, rfl⟩ := List.mem_map.mp hk
    exact nats_mem.mpr (of_decide_eq_true (List.mem_filter.mp hr).2)
theorem led_mem {n : Nat} {z : List Dc} {L : List Nat} (h : Led n z L) : ∀ m ∈ L, m < n := fun m hm => by
  obtain ⟨i, hi, e⟩ := List.getElem_of_mem hm
  have hi2 : i < n := by rw [← h.len]; exact hi
  have := h.low i hi2
  rw [List.getD_eq_getElem?_getD, List.getElem?_eq_getElem hi] at this
  have e' : m ≤ i := by rw [← e]; exact this
  omega
theorem kinds_pos {n : Nat} {z : List Dc} {L : List Nat} (h : Led n z L) (hn : 0 < n) : kindsL n L ≠ [] := by
  have h0 : L.getD 0 0 = 0 := Nat.le_zero.mp (h.low 0 hn)
  have hm : 0 ∈ L := by
    have hl : 0 < L.length := by rw [h.len]; exact hn
    rw [List.getD_eq_getElem?_getD, List.getElem?_eq_getElem hl] at h0
    have e : L[0] = 0 := h0
    rw [← e]
    exact List.getElem_mem hl
  intro e
  have : 0 ∈ kindsL n L := List.mem_filter.mpr ⟨List.mem_range.mpr hn, decide_eq_true hm⟩
  rw [e] at this
  cases this
def partsL (n : Nat) (z : List Dc) : List (List Nat) := lotsOf n (leadL n z)
/-- new lists at qs: what each holds -/
def NewLots (H0 H : Hp) (p : Addr) (qs : List Addr) (ls : List (List Nat)) : Prop := Paired (fun q l => H0 q = none ∧ q ≠ p ∧ H q = some (.lst ((natsL l).map V.int))) qs ls
def spParts (K : PySem.W.Frag) : Sp := fun vs H Q _ => ∃ (hv cv : V) (rooms : Nat) (ds : List (Nat × Nat)) (cs : List Int), vs = [hv, cv] ∧ Dp K H hv (houseD rooms ds) ∧ Dp K H cv (.list (cs.map .int)) ∧ rooms ≤ 50 ∧ cs.length = ds.length ∧ ds.length ≤ 500 ∧ Doors rooms ds ∧
  ∀ H' p qs, Same H H' → H p = none → H' p = some (.lst (qs.map V.ref)) → NewLots H H' p qs (partsL rooms (ds.zip cs)) → Q (.ref p) H'
def spMeant (K : PySem.W.Frag) : Sp := fun vs H Q _ => ∃ (dv cv : V) (rooms : Nat) (ds : List (Nat × Nat)) (cs : List Int), vs = [.int rooms, dv, cv] ∧ Dp K H dv (doorsD ds) ∧ Dp K H cv (.list (cs.map .int)) ∧ rooms ≤ 50 ∧ cs.length = ds.length ∧ ds.length ≤ 500 ∧ Doors rooms ds ∧
  ∀ H' p qs, Same H H' → H p = none → H' p = some (.lst (qs.map V.ref)) → NewLots H H' p qs (partsL rooms (ds.zip cs)) → Q (.ref p) H'
theorem newlots_dp {K : PySem.W.Frag} {H0 H : Hp} {p : Addr} : ∀ {qs : List Addr} {ls : List (List Nat)}, NewLots H0 H p qs ls → DpAll K H (qs.map V.ref) (ls.map lotD)
  | _, _, .nil => .nil
  | _, _, .cons h t => .cons (mk_ints h.2.2) (newlots_dp t)
theorem newlots_imp {H0 H0' H H' : Hp} {p p' : Addr} : ∀ {qs : List Addr} {ls : List (List Nat)}, NewLots H0 H p qs ls → (∀ q l, H0 q = none ∧ q ≠ p ∧ H q = some (.lst l) → H0' q = none ∧ q ≠ p' ∧ H' q = some (.lst l)) → NewLots H0' H' p' qs ls
  | _, _, .nil, _ => .nil
  | _, _, .cons h t, f => .cons (f _ _ h) (newlots_imp t f)
theorem newlots_snoc {H0 H : Hp} {p q : Addr} {l : List Nat} : ∀ {qs : List Addr} {ls : List (List Nat)}, NewLots H0 H p qs ls → H0 q = none ∧ q ≠ p ∧ H q = some (.lst ((natsL l).map V.int)) → NewLots H0 H p (qs ++ [q]) (ls ++ [l])
  | _, _, .nil, h => .cons h .nil
  | _, _, .cons h t, h' => .cons h (newlots_snoc t h')
end Bd
namespace Bd
open PySem PySem.Spec PyProof.Rows L2 HT
/-! ### lots that nothing leaves -/
def respB (z : List Dc) (lot : List Nat) : Prop := ∀ x ∈ z, 0 < x.2 → (x.1.1 ∈ lot ↔ x.1.2 ∈ lot)
theorem leaveM_cons (x : Dc) (z : List Dc) (lot : List Nat) : leaveM (x :: z) lot = (if lvAt lot x = true then x.2 else 0) + leaveM z lot := by
  unfold leaveM
  by_cases e : lvAt lot x = true
  · rw [if_pos e, List.filter_cons_of_pos e, List.map_cons, List.sum_cons]
  · rw [if_neg e, List.filter_cons_of_neg e, Int.zero_add]
theorem lv_iff (lot : List Nat) (x : Dc) : lvAt lot x = true ↔ ¬ (x.1.1 ∈ lot ↔ x.1.2 ∈ lot) := by
  unfold lvAt
  by_cases h1 : x.1.1 ∈ lot <;> by_cases h2 : x.1.2 ∈ lot <;> simp [h1, h2]
theorem leave_nonneg (lot : List Nat) : ∀ {z : List Dc}, (∀ x ∈ z, 0 ≤ x.2) → 0 ≤ leaveM z lot
  | [], _ => Int.le_refl _
  | x :: z, h => by
    rw [leaveM_cons]
    have h1 := h x List.mem_cons_self
    have h2 := leave_nonneg lot (z := z) fun y hy => h y (List.mem_cons_of_mem _ hy)
    split <;> omega
theorem leave_zero (lot : List Nat) : ∀ {z : List Dc}, (∀ x ∈ z, 0 ≤ x.2) → (leaveM z lot = 0 ↔ respB z lot)
  | [], _ => ⟨fun _ x hx => (by cases hx), fun _ => rfl⟩
  | x :: z, h => by
    have hz : ∀ y ∈ z, 0 ≤ y.2 := fun y hy => h y (List.mem_cons_of_mem _ hy)
    have h1 := h x List.mem_cons_self
    have h2 := leave_nonneg lot hz
    have ih := leave_zero lot hz
    rw [leaveM_cons]
    constructor
    · intro e
      have e1 : (if lvAt lot x = true then x.2 else 0) = 0 := by
        by_cases hl : lvAt lot x = true
        · rw [if_pos hl] at e ⊢; omega
        · rw [if_neg hl]
      have e2 : leaveM z lot = 0 := by omega
      intro y hy hp
      rcases List.mem_cons.mp hy with rfl | hy
      · refine Classical.byContradiction fun n => ?_
        rw [if_pos ((lv_iff lot y).mpr n)] at e1
        omega
      · exact ih.mp e2 y hy hp
    · intro r
      have e2 := ih.mpr fun y hy => r y (List.mem_cons_of_mem _ hy)
      rw [e2]
      by_cases hl : lvAt lot x = true
      · rw [if_pos hl]
        by_cases hp : 0 < x.2
        · exact absurd (r x List.mem_cons_self hp) ((lv_iff lot x).mp hl)
        · omega
      · rw [if_neg hl]; rfl
theorem led_lt {n : Nat} {z : List Dc} {L : List Nat} (h : Led n z L) {r : Nat} (hr : r < n) : L.getD r 0 < n := Nat.lt_of_le_of_lt (h.low r hr) hr
theorem led_in {n : Nat} {z : List Dc} {L : List Nat} (h : Led n z L) {r : Nat} (hr : r < n) : L.getD r 0 ∈ L := by
  have hl : r < L.length := by rw [h.len]; exact hr
  rw [List.getD_eq_getElem?_getD, List.getElem?_eq_getElem hl]
  exact List.getElem_mem hl
def classL (n : Nat) (L : List Nat) (m : Nat) : List Nat := (List.range n).filter fun r => decide (L.getD r 0 = m)
theorem class_mem {n : Nat} {L : List Nat} {m r : Nat} : r ∈ classL n L m ↔ r < n ∧ L.getD r 0 = m := by
  unfold classL
  rw [List.mem_filter, List.mem_range, decide_eq_true_iff]
theorem lots_mem {n : Nat} {L : List Nat} {one : List Nat} : one ∈ lotsOf n L ↔ ∃ m, m < n ∧ m ∈ L ∧ one = classL n L m := by
  unfold lotsOf
  rw [List.mem_map]
  constructor
  · rintro ⟨m, hm, rfl⟩
    obtain ⟨h1, h2⟩ := List.mem_filter.mp hm
    exact ⟨m, List.mem_range.mp h1, of_decide_eq_true h2, rfl⟩
  · rintro ⟨m, h1, h2, rfl⟩
    exact ⟨m, List.mem_filter.mpr ⟨List.mem_range.mpr h1, decide_eq_true h2⟩, rfl⟩
def inLot (lot one : List Nat) : List Nat := one.filter fun r => decide (r ∈ lot)
theorem filter_all {p : Nat → Bool} : ∀ {l : List Nat}, (∀ r ∈ l, p r = true) → l.filter p = l := fun h => List.filter_eq_self.mpr h
theorem whole_iff {n : Nat} {z : List Dc} {L : List Nat} (h : Led n z L) (hz : ∀ x ∈ z, x.1.1 < n ∧ x.1.2 < n) (lot : List Nat) :
    (∀ one ∈ lotsOf n L, inLot lot one = [] ∨ inLot lot one = one) ↔ respB z lot := by
  constructor
  · intro w x hx hp
    obtain ⟨ha, hb⟩ := hz x hx
    have e := h.eq x hx hp
    have m1 : x.1.1 ∈ classL n L (L.getD x.1.1 0) := class_mem.mpr ⟨ha, rfl⟩
    have m2 : x.1.2 ∈ classL n L (L.getD x.1.1 0) := class_mem.mpr ⟨hb, e.symm⟩
    rcases w _ (lots_mem.mpr ⟨L.getD x.1.1 0, led_lt h ha, led_in h ha, rfl⟩) with q | q
    · have no : ∀ r ∈ classL n L (L.getD x.1.1 0), ¬ r ∈ lot := fun r hr hl => by
        have : r ∈ inLot lot (classL n L (L.getD x.1.1 0)) := List.mem_filter.mpr ⟨hr, decide_eq_true hl⟩
        rw [q] at this
        cases this
      exact ⟨fun a => absurd a (no _ m1), fun a => absurd a (no _ m2)⟩
    · have yes : ∀ r ∈ classL n L (L.getD x.1.1 0), r ∈ lot := fun r hr => by
        rw [← q] at hr
        exact of_decide_eq_true (List.mem_filter.mp hr).2
      exact ⟨fun _ => yes _ m2, fun _ => yes _ m1⟩
  · intro r one ho
    obtain ⟨m, hm, _, rfl⟩ := lots_mem.mp ho
    have c : ∀ q ∈ classL n L m, (q ∈ lot ↔ m ∈ lot) := fun q hq => by
      obtain ⟨hq1, hq2⟩ := class_mem.mp hq
      have := h.con (fun t => t ∈ lot) r q hq1
      rw [hq2] at this
      exact this
    by_cases hl : m ∈ lot
    · exact .inr (filter_all fun q hq => decide_eq_true ((c q hq).mpr hl))
    · refine .inl (List.filter_eq_nil_iff.mpr fun q hq => ?_)
      rw [decide_eq_true_iff]
      exact fun a => hl ((c q hq).mp a)
/-! ### two lots -/
def btwB (one other : List Nat) (x : Dc) : Bool :=
  (decide (x.1.1 ∈ one ∧ ¬ x.1.1 ∈ other) && decide (x.1.2 ∈ other ∧ ¬ x.1.2 ∈ one)) || (decide (x.1.1 ∈ other ∧ ¬ x.1.1 ∈ one) && decide (x.1.2 ∈ one ∧ ¬ x.1.2 ∈ other))
def btwM (z : List Dc) (one other : List Nat) : Int := (z.map fun x => x.2 * (if btwB one other x = true then 1 else 0)).sum
theorem leave_two {one other both shared : List Nat} (hb : ∀ r, r ∈ both ↔ r ∈ one ∨ r ∈ other) (hs : ∀ r, r ∈ shared ↔ r ∈ one ∧ r ∈ other) :
    ∀ z : List Dc, leaveM z one + leaveM z other = leaveM z both + leaveM z shared + 2 * btwM z one other
  | [] => rfl
  | x :: z => by
    have ih := leave_two hb hs z
    have e : btwM (x :: z) one other = x.2 * (if btwB one other x = true then 1 else 0) + btwM z one other := by
      unfold btwM
      rw [List.map_cons, List.sum_cons]
    rw [leaveM_cons, leaveM_cons, leaveM_cons, leaveM_cons, e]
    have k : (if lvAt one x = true then x.2 else 0) + (if lvAt other x = true then x.2 else 0) = (if lvAt both x = true then x.2 else 0) + (if lvAt shared x = true then x.2 else 0) + 2 * (x.2 * (if btwB one other x = true then 1 else 0)) := by
      unfold lvAt btwB
      by_cases a1 : x.1.1 ∈ one <;> by_cases a2 : x.1.1 ∈ other <;> by_cases b1 : x.1.2 ∈ one <;> by_cases b2 : x.1.2 ∈ other <;> simp [hb, hs, a1, a2, b1, b2] <;> omega
    omega
/-! ### more counts -/
theorem parts_in {n : Nat} {z1 z2 : List Dc} {L1 L2 : List Nat} (h1 : Led n z1 L1) (h2 : Led n z2 L2) (h : ∀ x ∈ z1, 0 < x.2 → L2.getD x.1.1 0 = L2.getD x.1.2 0) {one : List Nat} (ho : one ∈ lotsOf n L1) :
    ∃ lot ∈ lotsOf n L2, ∀ r ∈ one, r ∈ lot := by
  obtain ⟨m, hm, hmL, rfl⟩ := lots_mem.mp ho
  refine ⟨classL n L2 (L2.getD m 0), lots_mem.mpr ⟨_, led_lt h2 hm, led_in h2 hm, rfl⟩, fun r hr => ?_⟩
  obtain ⟨hr1, hr2⟩ := class_mem.mp hr
  have := h1.con (fun t => L2.getD t 0 = L2.getD m 0) (fun x hx hp => by rw [h x hx hp]) r hr1
  rw [hr2] at this
  exact class_mem.mpr ⟨hr1, this.mpr rfl⟩
theorem lead_filter (n : Nat) : ∀ z : List Dc, leadL n (z.filter fun x => decide (0 < x.2)) = leadL n z := by
  intro z
  unfold leadL
  generalize List.range n = L
  induction z generalizing L with
  | nil => rfl
  | cons x z ih =>
    by_cases c : 0 < x.2
    · rw [List.filter_cons_of_pos (by exact decide_eq_true c), List.foldl_cons, List.foldl_cons, ih]
    · rw [List.filter_cons_of_neg (by rw [decide_eq_true_iff]; exact c), List.foldl_cons, ih]
      congr 1
      unfold leadStep
      rw [if_neg c]
/-! ### goings -/
def farM (F G : List Int) (lot : List Nat) : Int := (lot.map fun r => G.getD r 0 - F.getD r 0).sum
theorem leave_set {lot : List Nat} : ∀ {ds : List (Nat × Nat)} {cs : List Int} {k : Nat} {d : Nat × Nat} {c : Int}, ds[k]? = some d → cs[k]? = some c →
    leaveM (ds.zip (cs.set k (c + 1))) lot = leaveM (ds.zip cs) lot + (if lvAt lot (d, c) = true then 1 else 0)
  | [], _, k, _, _, h, _ => by simp at h
  | _ :: _, [], k, _, _, _, h => by simp at h
  | e :: ds, b :: cs, 0, d, c, h1, h2 => by
    have e1 : e = d := by simpa using h1
    have e2 : b = c := by simpa using h2
    subst e1 e2
    rw [List.set_cons_zero, List.zip_cons_cons, List.zip_cons_cons, leaveM_cons, leaveM_cons]
    have l : lvAt lot (e, b + 1) = lvAt lot (e, b) := rfl
    rw [l]
    split <;> omega
  | e :: ds, b :: cs, k + 1, d, c, h1, h2 => by
    have ih := leave_set (lot := lot) (ds := ds) (cs := cs) (k := k) (d := d) (c := c) (by simpa using h1) (by simpa using h2)
    rw [List.set_cons_succ, List.zip_cons_cons, List.zip_cons_cons, leaveM_cons, leaveM_cons, ih]
    omega
theorem met_cons (x : Dc) (z : List Dc) (r : Nat) : metAt (x :: z) r = ((if x.1.1 = r then x.2 else 0) + (if x.1.2 = r then x.2 else 0)) + metAt z r := by
  unfold metAt
  rw [List.map_cons, List.sum_cons]
theorem met_set {r : Nat} : ∀ {ds : List (Nat × Nat)} {cs : List Int} {k : Nat} {d : Nat × Nat} {c : Int}, ds[k]? = some d → cs[k]? = some c →
    metAt (ds.zip (cs.set k (c + 1))) r = metAt (ds.zip cs) r + ((if d.1 = r then 1 else 0) + (if d.2 = r then 1 else 0))
  | [], _, k, _, _, h, _ => by simp at h
  | _ :: _, [], k, _, _, _, h => by simp at h
  | e :: ds, b :: cs, 0, d, c, h1, h2 => by
    have e1 : e = d := by simpa using h1
    have e2 : b = c := by simpa using h2
    subst e1 e2
    rw [List.set_cons_zero, List.zip_cons_cons, List.zip_cons_cons, met_cons, met_cons]
    show ((if e.1 = r then b + 1 else 0) + (if e.2 = r then b + 1 else 0)) + _ = ((if e.1 = r then b else 0) + (if e.2 = r then b else 0)) + _ + _
    split <;> split <;> omega
  | e :: ds, b :: cs, k + 1, d, c, h1, h2 => by
    have ih := met_set (r := r) (ds := ds) (cs := cs) (k := k) (d := d) (c := c) (by simpa using h1) (by simpa using h2)
    rw [List.set_cons_succ, List.zip_cons_cons, List.zip_cons_cons, met_cons, met_cons, ih]
    omega
end Bd
namespace Bd
open PySem PySem.Spec PyProof.Rows L2 HT
theorem getD_setI {M : List Int} {a r : Nat} {v : Int} (h : a < M.length) : (M.set a v).getD r 0 = if r = a then v else M.getD r 0 := by
  rw [List.getD_eq_getElem?_getD, List.getD_eq_getElem?_getD]
  by_cases e : r = a
  · subst e
    rw [List.getElem?_set_self h, if_pos rfl]
    rfl
  · rw [List.getElem?_set_ne (fun q => e q.symm), if_neg e]
theorem far_set {F G : List Int} {a : Nat} {v : Int} (h : a < G.length) : ∀ {lot : List Nat}, lot.Nodup → farM F (G.set a v) lot = farM F G lot + (if a ∈ lot then v - G.getD a 0 else 0)
  | [], _ => rfl
  | r :: lot, nd => by
    obtain ⟨n1, n2⟩ := List.nodup_cons.mp nd
    have ih := far_set (F := F) h n2 (v := v)
    unfold farM at ih ⊢
    rw [List.map_cons, List.sum_cons, List.map_cons, List.sum_cons, ih, getD_setI h]
    by_cases e : r = a
    · subst e
      rw [if_pos rfl, if_neg n1, if_pos List.mem_cons_self]
      omega
    · rw [if_neg e]
      by_cases q : a ∈ lot
      · rw [if_pos q, if_pos (List.mem_cons_of_mem _ q)]; omega
      · rw [if_neg q, if_neg (fun z => by rcases List.mem_cons.mp z with z | z; exact e z.symm; exact q z)]; omega
structure Mvd (rooms : Nat) (ds : List (Nat × Nat)) (F G C : List Int) : Prop where
  lf : F.length = rooms
  lg : G.length = rooms
  lc : C.length = ds.length
  pos : ∀ c ∈ C, 0 ≤ c
  far : ∀ lot : List Nat, lot.Nodup → -(leaveM (ds.zip C) lot) ≤ farM F G lot ∧ farM F G lot ≤ leaveM (ds.zip C) lot ∧ (farM F G lot - leaveM (ds.zip C) lot) % 2 = 0
  par : ∀ r : Nat, r < rooms → (F.getD r 0 + G.getD r 0 + metAt (ds.zip C) r) % 2 = 0
theorem zip_zero_leave (lot : List Nat) : ∀ (ds : List (Nat × Nat)) (n : Nat), leaveM (ds.zip (List.replicate n (0 : Int))) lot = 0
  | [], _ => rfl
  | _ :: _, 0 => rfl
  | d :: ds, n + 1 => by
    rw [List.replicate_succ, List.zip_cons_cons, leaveM_cons, zip_zero_leave lot ds n]
    split <;> rfl
theorem zip_zero_met (r : Nat) : ∀ (ds : List (Nat × Nat)) (n : Nat), metAt (ds.zip (List.replicate n (0 : Int))) r = 0
  | [], _ => rfl
  | _ :: _, 0 => rfl
  | d :: ds, n + 1 => by
    rw [List.replicate_succ, List.zip_cons_cons, met_cons, zip_zero_met r ds n]
    show ((if d.1 = r then (0 : Int) else 0) + (if d.2 = r then 0 else 0)) + 0 = 0
    split <;> split <;> rfl
theorem far_self (F : List Int) (lot : List Nat) : farM F F lot = 0 := by
  unfold farM
  induction lot with
  | nil => rfl
  | cons r lot ih => rw [List.map_cons, List.sum_cons, ih]; omega
theorem mvd_start {rooms : Nat} {ds : List (Nat × Nat)} {F : List Int} (h : F.length = rooms) : Mvd rooms ds F F (List.replicate ds.length 0) where
  lf := h
  lg := h
  lc := List.length_replicate
  pos := fun c hc => by rw [(List.mem_replicate.mp hc).2]; exact Int.le_refl _
  far := fun lot _ => by
    have e := far_self F lot
    rw [e, zip_zero_leave]
    exact ⟨Int.le_refl _, Int.le_refl _, rfl⟩
  par := fun r _ => by
    rw [zip_zero_met]
    omega
theorem mvd_step {rooms : Nat} {ds : List (Nat × Nat)} {F G C : List Int} {k one other : Nat} {d : Nat × Nat} {c : Int} (h : Mvd rooms ds F G C) (hd : ds[k]? = some d) (hc : C[k]? = some c)
    (hw : (one = d.1 ∧ other = d.2) ∨ (one = d.2 ∧ other = d.1)) (h1 : one < rooms) (h2 : other < rooms) (hn : one ≠ other) :
    Mvd rooms ds F ((G.set one (G.getD one 0 - 1)).set other (G.getD other 0 + 1)) (C.set k (c + 1)) where
  lf := h.lf
  lg := by rw [List.length_set, List.length_set]; exact h.lg
  lc := by rw [List.length_set]; exact h.lc
  pos := fun x hx => by
    have := h.pos c (List.mem_of_getElem? hc)
    rcases List.mem_or_eq_of_mem_set hx with q | q
    · exact h.pos x q
    · omega
  far := fun lot nd => by
    obtain ⟨a1, a2, a3⟩ := h.far lot nd
    have g1 : one < G.length := by rw [h.lg]; exact h1
    have g2 : other < (G.set one (G.getD one 0 - 1)).length := by rw [List.length_set, h.lg]; exact h2
    have e2 : (G.set one (G.getD one 0 - 1)).getD other 0 = G.getD other 0 := by rw [getD_setI g1, if_neg (fun z => hn z.symm)]
    rw [far_set g2 nd, far_set g1 nd, e2, leave_set hd hc]
    have lv : lvAt lot (d, c) = true ↔ ¬ (one ∈ lot ↔ other ∈ lot) := by
      rw [lv_iff]
      rcases hw with ⟨rfl, rfl⟩ | ⟨rfl, rfl⟩
      · exact Iff.rfl
      · exact not_congr ⟨fun z => z.symm, fun z => z.symm⟩
    by_cases q1 : one ∈ lot <;> by_cases q2 : other ∈ lot
    · rw [if_pos q1, if_pos q2, if_neg (fun z => (lv.mp z) ⟨fun _ => q2, fun _ => q1⟩)]; omega
    · rw [if_pos q1, if_neg q2, if_pos (lv.mpr fun z => q2 (z.mp q1))]; omega
    · rw [if_neg q1, if_pos q2, if_pos (lv.mpr fun z => q1 (z.mpr q2))]; omega
    · rw [if_neg q1, if_neg q2, if_neg (fun z => (lv.mp z) ⟨fun a => absurd a q1, fun a => absurd a q2⟩)]; omega
  par := fun r hr => by
    have a := h.par r hr
    have g1 : one < G.length := by rw [h.lg]; exact h1
    have g2 : other < (G.set one (G.getD one 0 - 1)).length := by rw [List.length_set, h.lg]; exact h2
    rw [getD_setI g2, getD_setI g1, met_set hd hc]
    have m : ((if d.1 = r then (1 : Int) else 0) + (if d.2 = r then 1 else 0)) = (if one = r then 1 else 0) + (if other = r then 1 else 0) := by
      rcases hw with ⟨rfl, rfl⟩ | ⟨rfl, rfl⟩
      · rfl
      · rw [Int.add_comm]
    rw [m]
    by_cases q1 : one = r
    · subst q1
      rw [if_neg hn, if_pos rfl, if_pos rfl, if_neg (fun z => hn z.symm)]
      omega
    · by_cases q2 : other = r
      · subst q2
        rw [if_pos rfl, if_neg q1, if_pos rfl]
        omega
      · rw [if_neg (fun z => q2 z.symm), if_neg (fun z => q1 z.symm), if_neg q1, if_neg q2]
        omega
end Bd
namespace Bd
open PySem PySem.Spec PyProof.Rows L2 HT
section
variable {X : Cx}
/-- x not in a tuple of data of any depth -/
def rNotInT (K : PySem.W.Frag) : R2 := fun x y H Q => ∃ d ds, Dp K H x d ∧ Dp K H y (.tuple ds) ∧ SeqAt.shaped d = true ∧ SeqAt.shaped (.tuple ds) = true ∧ Q (.bl (!ds.any fun z => PyData.eqv z d)) H
theorem op_notInT (hu : X.A.units + 70 < cLine) : OpR X (compareOp .NotIn) (rNotInT X.K) := by
  intro pins s σ H x y v u Q I rx ry h
  obtain ⟨d, ds, hd, he, sd, se, q⟩ := h
  obtain ⟨as, r1⟩ := Dp.reads I d x v hd rx
  obtain ⟨bs, r2⟩ := Dp.reads I (.tuple ds) y u he ry
  have hs : d.depth ≤ 64 := by
    have h : (d.canLay0 && decide (d.depth ≤ 64)) = true := sd
    rw [Bool.and_eq_true] at h
    exact of_decide_eq_true h.2
  exact SeqAt.notIn_tuple_reads r2 r1 (SeqAt.canLay_of_shaped se) (SeqAt.canLay_of_shaped sd) (by have := Nat.min_le_right (PyData.depthAll ds) d.depth; omega) ⟨.bl _, H, I, rfl, q⟩
theorem piK {X : Cx} {tg iter : Expr} (t : TI) (h : PI X tg iter t) : PI X tg iter t := h
theorem in_room {k : Nat} {A : Around} (hr : Room k A) : A.units + 70 < cLine := by have := hr.un; omega
theorem in_room2 {k : Nat} {A : Around} (hr : Room k A) : A.units + 65 < cLine := by have := hr.un; omega
end
/-! lists of lots, laid anew -/
def LL (H0 H : Hp) (qs : List Addr) (ls : List (List Nat)) : Prop := Paired (fun q l => H0 q = none ∧ H q = some (.lst ((natsL l).map V.int))) qs ls
theorem LL.mono {H0 H H' : Hp} {qs : List Addr} {ls : List (List Nat)} (h : LL H0 H qs ls) (k : Same H H') : LL H0 H' qs ls := L2.Paired.mapP h fun _ _ q => ⟨q.1, k _ _ q.2⟩
theorem LL.at {H0 H : Hp} : ∀ {qs : List Addr} {ls : List (List Nat)} {i : Nat} {l : List Nat}, LL H0 H qs ls → ls[i]? = some l → ∃ q, qs[i]? = some q ∧ H0 q = none ∧ H q = some (.lst ((natsL l).map V.int))
  | _, _, i, l, .nil, e => by simp at e
  | _, b :: _, 0, l, .cons h t, e => by
    have e2 : b = l := by simpa using e
    subst e2
    exact ⟨_, rfl, h⟩
  | _, _, i + 1, l, .cons h t, e => by
    obtain ⟨q, e1, h1⟩ := LL.at t (i := i) (by simpa using e)
    exact ⟨q, by simpa using e1, h1⟩
theorem LL.len {H0 H : Hp} {qs : List Addr} {ls : List (List Nat)} (h : LL H0 H qs ls) : qs.length = ls.length := Paired.length h
theorem LL.app {H0 H : Hp} : ∀ {qs ps : List Addr} {ls ms : List (List Nat)}, LL H0 H qs ls → LL H0 H ps ms → LL H0 H (qs ++ ps) (ls ++ ms)
  | _, _, _, _, .nil, h => h
  | _, _, _, _, .cons h t, h2 => .cons h (LL.app t h2)
theorem LL.dps {K : PySem.W.Frag} {H0 H : Hp} : ∀ {qs : List Addr} {ls : List (List Nat)}, LL H0 H qs ls → DpAll K H (qs.map V.ref) (ls.map lotD)
  | _, _, .nil => .nil
  | _, _, .cons h t => .cons (mk_ints h.2) (LL.dps t)
/-- lots of rooms below n -/
def LotsOk (n : Nat) (ls : List (List Nat)) : Prop := ∀ l ∈ ls, l.Nodup ∧ l.length ≤ n ∧ ∀ r ∈ l, r < n
def spLots (K : PySem.W.Frag) : Sp := fun vs H Q _ => ∃ rooms : Nat, vs = [.int rooms] ∧ rooms ≤ 10 ∧
  ∀ H' p qs ls, Same H H' → H p = none → H' p = some (.lst (qs.map V.ref)) → LL H H' qs ls → ls.length = 2 ^ rooms → LotsOk rooms ls → Q (.ref p) H'
end Bd
namespace Bd
open PySem PySem.Spec PyProof.Rows L2 HT
def topS (i : Nat) : Stmt := PySem.Challenge.pw_bothdoors_k05_whole_lots_that_nothing_le.main.body.getD i (.Pass ⟨0, 0, 0, 0⟩)
abbrev sLawDraw : Stmt := topS 6
theorem scLawDraw : FnScope ["bag", "many", "left"] ["bag", "many"] (defScope sLawDraw) := ⟨rfl, rfl, rfl, by decide +kernel, rfl, by decide +kernel, by decide +kernel⟩
section
variable {P : Program} {w : World} {K : PySem.W.Frag} {mg : Str → Option Value} {base : Heap}
theorem ok_draw {f : Addr} {fd : FuncData} (F : Fun K "_law_draw" "_law_draw" sLawDraw f fd) (m_len : mg "len" = none) : FnOk P w K mg base CX0 1 f fd ["bag", "many"] spDraw := by
  have sc := scLawDraw
  refine F.ok scLawDraw (fun vs H Q E h => ?_) (fun cdv A outer s H vs Q E hr h => ?_)
  · obtain ⟨a, c, m, rfl, _⟩ := h
    rfl
  · obtain ⟨a, c, m, rfl, hB, hm0, hm1, q⟩ := h
    have hu := hu_of hr
    refine ⟨_, (pss_cons (ps_while PassesOwn.never (PW.pt (pw_and (pt_cmpR op_lt (pe_ix ix_list (pv 0) pe_int (fun _ _ => rfl)) (pe_callB call_len_seq (by rfl) m_len PySem.boot_len (pa_cons (pe_ix ix_list (pv 0) pe_int (fun _ _ => rfl)) pa_nil)) (nomark _)) (pw_and1 (pt_cmpR op_eq (pe_ix ix_list (pe_ix ix_list (pv 0) pe_int (fun _ _ => rfl)) (pe_ix ix_list (pv 0) pe_int (fun _ _ => rfl)) (fun _ _ => rfl)) pe_int (nomark _)))))
    (pss_one (ps_asg (pe_op op_add (pe_ix ix_list (pv 0) pe_int (fun _ _ => rfl)) pe_int) (pg_sub (pv 0) pe_int set_list))))
  (pss_cons (ps_if (pt_cmpR op_lt (pe_ix ix_list (pv 0) pe_int (fun _ _ => rfl)) (pe_callB call_len_seq (by rfl) m_len PySem.boot_len (pa_cons (pe_ix ix_list (pv 0) pe_int (fun _ _ => rfl)) pa_nil)) (nomark _))
    (pss_cons (ps_set (i := 2) sc.nd rfl (.inl rfl) (pe_ix ix_list (pe_ix ix_list (pv 0) pe_int (fun _ _ => rfl)) (pe_ix ix_list (pv 0) pe_int (fun _ _ => rfl)) (fun _ _ => rfl)))
  (pss_cons (ps_asg (pe_op op_fdivW (pv 2) (pv 1)) (pg_sub (pe_ix ix_list (pv 0) pe_int (fun _ _ => rfl)) (pe_ix ix_list (pv 0) pe_int (fun _ _ => rfl)) set_list))
  (pss_one (ps_ret (pe_op op_mod (pv 2) (pv 1))))))
    pss_nil)
  (pss_cons (ps_asg (pe_op op_add (pe_ix ix_list (pv 0) pe_int (fun _ _ => rfl)) pe_int) (pg_sub (pv 0) pe_int set_list))
  (pss_cons (ps_asg (pe_op op_mod (pe_op op_add (pe_op op_add (pe_op op_add (pe_op op_pow (pe_ix ix_list (pv 0) pe_int (fun _ _ => rfl)) pe_int) (pe_op op_mul pe_int (pe_ix ix_list (pv 0) pe_int (fun _ _ => rfl)))) (pe_op op_mul pe_int (pe_ix ix_list (pv 0) pe_int (fun _ _ => rfl)))) pe_int) (pe_op op_sub (pe_op op_pow pe_int pe_int) pe_int)) (pg_sub (pv 0) pe_int set_list))
  (pss_one (ps_ret (pe_op op_mod (pe_op op_fdiv (pe_ix ix_list (pv 0) pe_int (fun _ _ => rfl)) pe_int) (pv 1)))))))), ?_⟩
    obtain ⟨⟨ls, i0, s0, t0, hA, hC, hi0, hls, hs0, hs1⟩, hne⟩ := hB
    refine ⟨fun n σ H' => ∃ i : Int, σ = [some (.ref a), some (.int m), none] ∧ n = (ls.length - i).toNat ∧ 0 ≤ i ∧ H' a = some (.lst (bagL c i s0 t0)) ∧ H' c = some (.lst (ls.map V.int)) ∧ Kp [a, c] H H',
      ⟨_, i0, rfl, rfl, hi0, hA, hC, Kp.refl⟩, ?_⟩
    rintro n σ H1 ⟨i, rfl, rfl, hi, hA, hC, k1⟩
    -- bag[1] < len(bag[0])
    have sA : SqL K H1 a (bagL c i s0 t0) := .inl (.inl hA)
    have sC : SqL K H1 c (ls.map V.int) := .inl (.inl hC)
    refine ⟨_, rfl, _, _, _, _, rfl, rfl, sA, rfl, _, rfl, _, _, _, _, rfl, rfl, sA, rfl, _, _, rfl, .inl sC, _, _, rfl, rfl, _, rfl, ite2 (fun e => ?_) (fun e => ?_)⟩
    · -- bag[0][bag[1]] == 0
      rw [List.length_map] at e
      have hi2 : i < ls.length := of_decide_eq_true e
      have hj : i.toNat < ls.length := by omega
      obtain ⟨j, rfl⟩ : ∃ j : Nat, i = (j : Int) := ⟨i.toNat, by omega⟩
      have hj : j < ls.length := by omega
      have g : (ls.map V.int)[j]? = some (.int ls[j]) := by rw [List.getElem?_map, List.getElem?_eq_getElem hj]; rfl
      refine ⟨_, rfl, _, _, _, _, rfl, rfl, sA, rfl, _, rfl, _, _, _, _, rfl, rfl, sA, rfl, _, _, _, _, rfl, rfl, sC, atI_nat g, rfl, _, rfl, ite2 (fun e2 => ?_) (fun e2 => ?_)⟩
      · -- bag[1] = bag[1] + 1
        refine ⟨fun σ' H' => ∃ i : Int, σ' = [some (.ref a), some (.int m), none] ∧ (ls.length - i).toNat < (ls.length - (j : Int)).toNat ∧ 0 ≤ i ∧ H' a = some (.lst (bagL c i s0 t0)) ∧ H' c = some (.lst (ls.map V.int)) ∧ Kp [a, c] H H', fun σ' H' hN => ?_, ?_⟩
        · obtain ⟨i, h1, h2, h3⟩ := hN
          exact ⟨_, h2, i, h1, rfl, h3⟩
        · refine ⟨_, rfl, _, _, _, _, rfl, rfl, sA, rfl, _, _, rfl, rfl, _, rfl, _, _, _, 1, rfl, rfl, hA, rfl, ?_⟩
          exact ⟨_, rfl, by omega, by omega, upd_same, by rw [upd_ne (Ne.symm hne)]; exact hC, k1.wr (by simp)⟩
      · -- behind the loop, an item there
        refine ⟨_, rfl, _, _, _, _, rfl, rfl, sA, rfl, _, rfl, _, _, _, _, rfl, rfl, sA, rfl, _, _, rfl, .inl sC, _, _, rfl, rfl, _, rfl, ifT (by rw [List.length_map]; exact e) ?_⟩
        refine ⟨_, rfl, _, _, _, _, rfl, rfl, sA, rfl, _, rfl, _, _, _, _, rfl, rfl, sA, rfl, _, _, _, _, rfl, rfl, sC, atI_nat g, ?_⟩
        refine ⟨_, rfl, _, rfl, _, _, rfl, rfl, wide_div hm0 (b := 1000) (by omega) (by decide) (by decide), ?_⟩
        refine ⟨_, rfl, _, _, _, _, rfl, rfl, sA, rfl, _, rfl, _, _, _, _, rfl, rfl, sA, rfl, _, _, _, j, rfl, rfl, hC, ?_, ?_⟩
        · unfold ixN
          rw [List.length_map, if_pos (by omega), if_pos (by omega)]
          simp
        · refine ⟨_, rfl, _, rfl, _, _, rfl, rfl, hm0, ?_⟩
          refine q _ _ (Int.emod_nonneg _ (by omega)) (Int.emod_lt_of_pos _ hm0) ⟨⟨ls.set j (ls[j] / m), _, s0, t0, ?_, ?_, hi, ?_, hs0, hs1⟩, hne⟩ (k1.wr (by simp))
          · rw [upd_ne hne]; exact hA
          · rw [upd_same, List.map_set]
          · rw [List.length_set]; exact hls
    · -- behind the loop, none left
      refine ⟨_, rfl, _, _, _, _, rfl, rfl, sA, rfl, _, rfl, _, _, _, _, rfl, rfl, sA, rfl, _, _, rfl, .inl sC, _, _, rfl, rfl, _, rfl, ifF e ?_⟩
      -- bag[3] = bag[3] + 1
      refine ⟨_, rfl, _, _, _, _, rfl, rfl, sA, rfl, _, _, rfl, rfl, _, rfl, _, _, _, 3, rfl, rfl, hA, rfl, ?_⟩
      have sA2 : SqL K (upd H1 a (.lst (bagL c i s0 (t0 + 1)))) a (bagL c i s0 (t0 + 1)) := .inl (.inl upd_same)
      -- bag[2] = (bag[2] ** 3 + 48271 * bag[2] + 2039 * bag[3] + 7) % (2 ** 61 - 1)
      refine ⟨_, rfl, _, _, _, _, rfl, rfl, sA2, rfl, _, _, rfl, rfl, ⟨by decide, by decide, by omega⟩, _, rfl, _, _, _, _, rfl, rfl, sA2, rfl, _, _, rfl, rfl, .inl ⟨by decide, by decide⟩, _, _, rfl, rfl, _, rfl, _, _, _, _, rfl, rfl, sA2, rfl, _, _, rfl, rfl, .inl ⟨by decide, by decide⟩, _, _, rfl, rfl, _, _, rfl, rfl,
        _, _, rfl, rfl, ⟨by decide, by decide, by decide⟩, _, _, rfl, rfl, _, _, rfl, rfl, (by show (0 : Int) < 2 ^ 61 - 1; decide), _, rfl, _, _, _, 2, rfl, rfl, upd_same, rfl, ?_⟩
      rw [upd_upd]
      have hz0 : 0 ≤ ((s0 ^ Int.toNat 3 + 48271 * s0 + 2039 * (t0 + 1) + 7) % (2 ^ Int.toNat 61 - 1)) := Int.emod_nonneg _ (by decide)
      have hz1 : ((s0 ^ Int.toNat 3 + 48271 * s0 + 2039 * (t0 + 1) + 7) % (2 ^ Int.toNat 61 - 1)) < 2 ^ 63 := Int.lt_of_lt_of_le (Int.emod_lt_of_pos _ (by decide)) (by decide)
      have sA3 : SqL K (upd H1 a (.lst (bagL c i ((s0 ^ Int.toNat 3 + 48271 * s0 + 2039 * (t0 + 1) + 7) % (2 ^ Int.toNat 61 - 1)) (t0 + 1)))) a (bagL c i ((s0 ^ Int.toNat 3 + 48271 * s0 + 2039 * (t0 + 1) + 7) % (2 ^ Int.toNat 61 - 1)) (t0 + 1)) := .inl (.inl upd_same)
      refine ⟨_, rfl, _, _, _, _, rfl, rfl, sA3, rfl, _, _, rfl, rfl, ⟨by decide, by decide⟩, _, rfl, _, _, rfl, rfl, hm0, ?_⟩
      refine q _ _ (Int.emod_nonneg _ (by omega)) (Int.emod_lt_of_pos _ hm0) ⟨⟨ls, i, ((s0 ^ Int.toNat 3 + 48271 * s0 + 2039 * (t0 + 1) + 7) % (2 ^ Int.toNat 61 - 1)), t0 + 1, upd_same, ?_, hi, hls, hz0, hz1⟩, hne⟩ (k1.wr (by simp))
      rw [upd_ne (Ne.symm hne)]; exact hC
end
end Bd
namespace Bd
open PySem PySem.Spec PyProof.Rows L2 HT
abbrev sLawBag : Stmt := topS 5
theorem scLawBag : FnScope ["script", "seed", "cell"] ["script"] (defScope sLawBag) := ⟨rfl, rfl, rfl, by decide +kernel, rfl, by decide +kernel, by decide +kernel⟩
section
variable {P : Program} {w : World} {K : PySem.W.Frag} {mg : Str → Option Value} {base : Heap}
theorem ok_bag {f : Addr} {fd : FuncData} (F : Fun K "_law_bag" "_law_bag" sLawBag f fd) (m_abs : mg "abs" = none) : FnOk P w K mg base CX0 1 f fd ["script"] (spBag K) := by
  have sc := scLawBag
  refine F.ok scLawBag (fun vs H Q E h => ?_) (fun cdv A outer s H vs Q E hr h => ?_)
  · obtain ⟨a, ns, rfl, _⟩ := h
    rfl
  · obtain ⟨a, ns, rfl, hS, hlen, q⟩ := h
    have hu := hu_of hr
    refine ⟨_, (pss_cons (ps_set (i := 1) sc.nd rfl (.inl rfl) pe_int)
  (pss_cons (ps_for PassesOwn.never rfl (pi_list (pe_slice sl_list (pv 0) po_none (po_some pe_int))) (pg_name (i := 2) sc.nd rfl (.inl rfl))
    (pss_one (ps_set (i := 1) sc.nd rfl (.inl rfl) (pe_op op_mod (pe_op op_add (pe_op op_add (pe_op op_mul (pv 1) pe_int) (pe_op op_mod (pv 2) pe_int)) pe_int) (pe_op op_sub (pe_op op_pow pe_int pe_int) pe_int)))))
  (pss_one (ps_ret (pe_lst (pa_cons (pe_lc (own := [("cell", 2)]) (g := gName 2) (tt := tYes) (by rfl) sc.nd  (pi_list (pe_slice sl_list (pv 0) po_none (po_some pe_int))) (blkOk_by (own := [("cell", 2)]) (N := ["script", "seed", "cell"]) (sc := defScope sLawBag) (by decide +kernel)) (fun _ _ _ _ _ => (pg_name (i := 2) sc.nd rfl (.inl rfl))) (fun _ _ _ _ _ => pts_nil) (fun _ _ _ _ _ => (pe_op op_mod (pe_callB call_abs (by rfl) m_abs (by decide +kernel) (pa_cons (pv 2) pa_nil)) (pe_op op_powW (pe_op op_pow pe_int pe_int) pe_int)))) (pa_cons pe_int (pa_cons (pv 1) (pa_cons pe_int pa_nil))))))))), ?_⟩
    refine ⟨_, rfl, 60, rfl, a, ns.map V.int, rfl, hS, fun D nD => ?_⟩
    obtain ⟨ms, em, lm⟩ := cut_ints ns none (some 60)
    rw [em]
    have k0 : Same H (upd H D (.lst (ms.map V.int))) := same_new nD
    refine ⟨D, rfl, ⟨_, .inl (.inl upd_same)⟩, for_list (K := K) (a := D) (xs := ms.map V.int) (fun i σ H2 => ∃ (s0 : Int) (v : Option V), σ = [some (.ref a), some (.int s0), v] ∧ 0 ≤ s0 ∧ s0 < 2 ^ 63 ∧ H2 = upd H D (.lst (ms.map V.int)))
      ⟨29, none, rfl, by decide, by decide, rfl⟩ (fun i σ H2 _ ⟨_, _, _, _, _, e⟩ => by rw [e]; exact .inl (.inl upd_same)) ?_ ?_⟩
    · rintro i x σ H2 hx ⟨s0, v, rfl, h0, h1, rfl⟩
      obtain ⟨z, rfl, hz⟩ := ints_at hx
      refine ⟨_, rfl, _, _, rfl, rfl, .inl ⟨by omega, by omega⟩, _, rfl, _, _, rfl, rfl, (by show (0 : Int) < 2305843009213693921; decide), _, _, rfl, rfl, _, _, rfl, rfl, _, _, rfl, rfl, ⟨by decide, by decide, by decide⟩, _, _, rfl, rfl, _, _, rfl, rfl, (by show (0 : Int) < 2 ^ 61 - 1; decide), ?_⟩
      exact ⟨_, _, rfl, Int.emod_nonneg _ (by decide), Int.lt_of_lt_of_le (Int.emod_lt_of_pos _ (by decide)) (by decide), rfl⟩
    · rintro σ H2 ⟨s0, v, rfl, h0, h1, rfl⟩
      refine ⟨_, rfl, 60, rfl, a, ns.map V.int, rfl, k0.seq hS, fun D2 nD2 => ?_⟩
      rw [em]
      refine ⟨D2, rfl, ⟨_, .inl (.inl upd_same)⟩, fun L nL => ?_⟩
      refine lc_list (K := K) (a := D2) (xs := ms.map V.int) (fun i H3 => ∃ ys : List Int, ys.length = i ∧ H3 = upd (upd (upd H D (.lst (ms.map V.int))) D2 (.lst (ms.map V.int))) L (.lst (ys.map V.int))) ⟨[], rfl, rfl⟩ ?_ ?_ ?_
      · rintro i H3 _ ⟨ys, _, rfl⟩
        exact (same_new nL).seq (.inl (.inl upd_same))
      · rintro i x H3 hx ⟨ys, ly, rfl⟩
        obtain ⟨z, rfl, hz⟩ := ints_at hx
        have hi := lt_of_at hz
        refine ⟨rfl, _, rfl, _, rfl, _, _, rfl, rfl, ⟨by decide, by decide, by decide⟩, _, _, rfl, rfl, ⟨by decide, (by show (Builtin.Int.intBits (10 ^ Int.toNat 60) : Int) * 10 ≤ 2 ^ 27; decide +kernel)⟩, _, _, rfl, rfl, (by show (0 : Int) < (10 ^ Int.toNat 60) ^ Int.toNat 10; decide +kernel), ys.map V.int, upd_same, ?_, ?_⟩
        · rw [List.length_map]
          exact small1000 (by omega)
        · refine ⟨ys ++ [(if z < 0 then -z else z) % (10 ^ Int.toNat 60) ^ Int.toNat 10], by rw [List.length_append, ly]; rfl, ?_⟩
          rw [upd_upd, List.map_append]
          rfl
      · rintro H3 ⟨ys, ly, rfl⟩
        rw [List.length_map] at ly
        refine ⟨_, rfl, (by show 4 ≤ sizeLine; decide), fun p np => ?_⟩
        have hpL : p ≠ L := fun e => by rw [e, upd_same] at np; cases np
        have k3 : Same H (upd (upd (upd H D (.lst (ms.map V.int))) D2 (.lst (ms.map V.int))) L (.lst (ys.map V.int))) := (k0.trans (same_new nD2)).trans (same_new nL)
        refine q p L _ (k3.trans (same_new np)) (k3.free np) ((k0.trans (same_new nD2)).free nL) ⟨⟨ys, 0, s0, 0, upd_same, by rw [upd_ne hpL.symm, upd_same], by decide, by omega, h0, h1⟩, hpL⟩
end
end Bd
namespace Bd
open PySem PySem.Spec PyProof.Rows L2 HT
abbrev sLawGround : Stmt := topS 7
theorem scLawGround : FnScope ["bag", "most", "wide", "rooms", "doors", "k", "one", "pair"] ["bag", "most", "wide"] (defScope sLawGround) := ⟨rfl, rfl, rfl, by decide +kernel, rfl, by decide +kernel, by decide +kernel⟩
section
variable {P : Program} {w : World} {K : PySem.W.Frag} {mg : Str → Option Value} {base : Heap}
theorem ok_ground {f : Addr} {fd : FuncData} (F : Fun K "_law_ground" "_law_ground" sLawGround f fd) (cal_law_draw : Ca P w K mg base 1 "_law_draw" spDraw) (m_len : mg "len" = none) (m_range : mg "range" = none) (m_int : mg "int" = none) :
    FnOk P w K mg base CX0 2 f fd ["bag", "most", "wide"] (spGround K) := by
  have sc := scLawGround
  refine F.ok scLawGround (fun vs H Q E h => ?_) (fun cdv A outer s H vs Q E hr h => ?_)
  · obtain ⟨a, c, m, w, rfl, _⟩ := h
    rfl
  · obtain ⟨a, c, most, wide, rfl, hB, hm0, hm1, hw1, q⟩ := h
    have hu := hu_of hr
    refine ⟨_, (pss_cons (ps_set (i := 3) sc.nd rfl (.inl rfl) (pe_op op_add pe_int (pe_u cal_law_draw hr (by first | decide | exact Nat.le_refl _ | omega) (by rfl) (pa_cons (pv 0) (pa_cons (pe_ix ix_list (pe_lst (pa_cons pe_int (pa_cons (pv 1) pa_nil))) (pe_u cal_law_draw hr (by first | decide | exact Nat.le_refl _ | omega) (by rfl) (pa_cons (pv 0) (pa_cons pe_int pa_nil))) (fun _ _ => rfl)) pa_nil)))))
  (pss_cons (ps_set (i := 4) sc.nd rfl (.inl rfl) (pe_lst pa_nil))
  (pss_cons (ps_for PassesOwn.never rfl (pi_range1 (by rfl) m_range (pa_cons (pe_op op_mul (pe_ix ix_list (pe_lst (pa_cons (pe_u cal_law_draw hr (by first | decide | exact Nat.le_refl _ | omega) (by rfl) (pa_cons (pv 0) (pa_cons pe_int pa_nil))) (pa_cons (pe_u cal_law_draw hr (by first | decide | exact Nat.le_refl _ | omega) (by rfl) (pa_cons (pv 0) (pa_cons (pe_op op_add (pv 2) pe_int) pa_nil))) pa_nil))) (pe_u cal_law_draw hr (by first | decide | exact Nat.le_refl _ | omega) (by rfl) (pa_cons (pv 0) (pa_cons pe_int pa_nil))) (fun _ _ => rfl)) (pe_callTy call_int1 (by rfl) m_int (by decide +kernel) (pa_cons (pe_cmpR op_gt (pv 3) pe_int (nomark _)) pa_nil))) pa_nil)) (pg_name (i := 5) sc.nd rfl (.inl rfl))
    (pss_cons (ps_set (i := 6) sc.nd rfl (.inl rfl) (pe_u cal_law_draw hr (by first | decide | exact Nat.le_refl _ | omega) (by rfl) (pa_cons (pv 0) (pa_cons (pv 3) pa_nil))))
  (pss_cons (ps_set (i := 7) sc.nd rfl (.inl rfl) (pe_tup (pa_cons (pv 6) (pa_cons (pe_op op_mod (pe_op op_add (pe_op op_add (pv 6) pe_int) (pe_u cal_law_draw hr (by first | decide | exact Nat.le_refl _ | omega) (by rfl) (pa_cons (pv 0) (pa_cons (pe_op op_sub (pv 3) pe_int) pa_nil)))) (pv 3)) pa_nil))))
  (pss_mid (ps_if (PW.pt (pw_and (pt_cmpR (op_neD hr.units) (pv 4) (pe_lst pa_nil) (nomark _)) (pw_and1 (pt_cmpR op_eq (pe_u cal_law_draw hr (by first | decide | exact Nat.le_refl _ | omega) (by rfl) (pa_cons (pv 0) (pa_cons pe_int pa_nil))) pe_int (nomark _)))))
    (pss_one (ps_set (i := 7) sc.nd rfl (.inl rfl) (pe_stepT (pe_ix ix_list (pv 4) (pe_u cal_law_draw hr (by first | decide | exact Nat.le_refl _ | omega) (by rfl) (pa_cons (pv 0) (pa_cons (pe_callB call_len_seq (by rfl) m_len PySem.boot_len (pa_cons (pv 4) pa_nil)) pa_nil))) (fun _ _ => rfl)) (pe_un un_neg pe_int))))
    pss_nil)
  (pss_one (ps_expr (pe_bm PySem.F.plainAttrs_list PySem.F.slot_list_append PySem.F.type_list_append mt_append (pv 4) (pa_cons (pv 7) pa_nil))))))))
  (pss_one (ps_ret (pe_tup (pa_cons (pv 3) (pa_cons (pv 4) pa_nil)))))))), ?_⟩
    -- rooms = 1 + draw(bag, [4, most][draw(bag, 2)])
    refine ⟨_, rfl, _, rfl, (by show 2 ≤ sizeLine; decide), fun p1 n1 => ?_⟩
    refine ⟨_, rfl, a, c, 2, rfl, hB.new n1, by decide, by decide, fun r1 H1 h1a h1b B1 k1 => ?_⟩
    obtain ⟨v1, e1, f1⟩ := atI_two (x := V.int 4) (y := V.int most) h1a h1b
    obtain ⟨m1, rfl, m1a, m1b, m1c⟩ : ∃ m : Nat, v1 = .int (m : Int) ∧ 0 < m ∧ m ≤ max 4 most ∧ m ≤ 10 := by
      rcases f1 with rfl | rfl
      · exact ⟨4, rfl, by omega, by omega, by omega⟩
      · exact ⟨most, rfl, by omega, by omega, by omega⟩
    have s1 : SqL K H1 p1 [V.int 4, V.int most] := .inl (.inl (k1.at upd_same (hB.out n1)))
    refine ⟨_, _, _, _, rfl, rfl, s1, e1, ?_⟩
    refine ⟨a, c, _, rfl, B1, by omega, by omega, fun r2 H2 h2a h2b B2 k2 => ?_⟩
    refine ⟨_, _, rfl, rfl, ?_⟩
    obtain ⟨rooms, er, r0, r1'⟩ : ∃ rooms : Nat, 1 + r2 = (rooms : Int) ∧ 0 < rooms ∧ rooms ≤ m1 := ⟨(1 + r2).toNat, by omega, by omega, by omega⟩
    show gName 3 (V.int (1 + r2)) _ _ _
    rw [er]
    -- doors = []
    refine ⟨Nat.zero_le _, fun D nD => ?_⟩
    have oD := B2.out nD
    have k02 : Kp [a, c] H H2 := ((Kp.refl.new (hid_none n1)).trans k1).trans k2
    have k03 : Kp [a, c] H (upd H2 D (.lst [])) := k02.new (k02.free nD)
    -- range([draw(bag, 6), draw(bag, wide + 1)][draw(bag, 2)] * int(rooms > 1))
    refine ⟨_, rfl, a, c, 6, rfl, B2.new nD, by decide, by decide, fun r3 H3 h3a h3b B3 k3 => ?_⟩
    refine ⟨_, rfl, _, rfl, _, _, rfl, rfl, a, c, _, rfl, B3, by omega, by omega, fun r4 H4 h4a h4b B4 k4 => ?_⟩
    refine ⟨(by show 2 ≤ sizeLine; decide), fun p2 n2 => ?_⟩
    refine ⟨_, rfl, a, c, 2, rfl, B4.new n2, by decide, by decide, fun r5 H5 h5a h5b B5 k5 => ?_⟩
    obtain ⟨v5, e5, f5⟩ := atI_two (x := V.int r3) (y := V.int r4) h5a h5b
    obtain ⟨m5, rfl, m5b⟩ : ∃ m : Nat, v5 = .int (m : Int) ∧ m ≤ max 5 wide := by
      rcases f5 with rfl | rfl
      · exact ⟨r3.toNat, by rw [Int.toNat_of_nonneg h3a], by omega⟩
      · exact ⟨r4.toNat, by rw [Int.toNat_of_nonneg h4a], by omega⟩
    have s5 : SqL K H5 p2 [V.int r3, V.int r4] := .inl (.inl (k5.at upd_same (B4.out n2)))
    have m5c : m5 ≤ 24 := by omega
    refine ⟨_, _, _, _, rfl, rfl, s5, e5, ?_⟩
    refine ⟨_, rfl, _, _, rfl, rfl, .inr ⟨_, rfl, ?_⟩⟩
    have D5 : H5 D = some (.lst []) := k5.at (by rw [upd_ne (ne_new (k4.at (k3.at upd_same oD) oD) n2).symm]; exact k4.at (k3.at upd_same oD) oD) oD
    have k05 : Kp [a, c] H H5 := (((k03.trans k3).trans k4).new (((k03.trans k3).trans k4).free n2)).trans k5
    have nDH : hid [a, c] H D = none := k02.free nD
    -- the number of turns
    obtain ⟨n, en, hn1, hn2⟩ : ∃ n : Nat, (m5 : Int) * (if decide ((1 : Int) < (rooms : Int)) = true then 1 else 0) = (n : Int) ∧ n ≤ m5 ∧ (0 < n → 1 < rooms) := by
      by_cases h : (1 : Int) < (rooms : Int)
      · exact ⟨m5, by rw [if_pos (decide_eq_true h), Int.mul_one], Nat.le_refl _, fun _ => by omega⟩
      · exact ⟨0, by rw [if_neg (by rw [decide_eq_false h]; decide), Int.mul_zero]; rfl, Nat.zero_le _, fun h => absurd h (by decide)⟩
    refine ⟨_, _, rfl, rfl, .inl ⟨by omega, by omega⟩, ?_⟩
    refine ⟨(n : Int), congrArg (fun z => [V.int z]) en, by omega, by omega, for_range (lo := 0) (n := n) (fun i σ H6 => ∃ (ds : List (Nat × Nat)) (vs : List V) (x y z : Option V), σ = [some (.ref a), some (.int most), some (.int wide), some (.int rooms), some (.ref D), x, y, z] ∧ H6 D = some (.lst vs) ∧ DpAll K (hid [a, c, D] H6) vs (ds.map pairD) ∧ ds.length = i ∧ Doors rooms ds ∧ Bag H6 a c ∧ Kp [a, c] H H6)
      ⟨[], [], none, none, none, rfl, D5, .nil, rfl, (fun d hd => by cases hd), B5, k05⟩ ?_ ?_⟩
    · rintro i σ H6 hi ⟨ds, vs, x, y, z, rfl, hD, hds, hlen, hok, B6, k6⟩
      have r1 : 1 < rooms := hn2 (by omega)
      have sub : ∀ b ∈ [a, c], b ∈ [a, c, D] := fun b hb => by simp only [List.mem_cons, List.not_mem_nil, or_false] at hb ⊢; rcases hb with z | z <;> simp [z]
      have d6 : Dp K (hid [a, c] H6) (.ref D) (doorsD ds) := .lst (.inl (.inl (hid_of hD oD))) (dps_same (hid_sub sub) hds)
      -- one = draw(bag, rooms)
      refine ⟨_, rfl, _, rfl, a, c, _, rfl, B6, by omega, by omega, fun r7 H7 h7a h7b B7 k7 => ?_⟩
      -- pair = (one, (one + 1 + draw(bag, rooms - 1)) % rooms)
      refine ⟨_, rfl, _, rfl, _, _, rfl, rfl, _, rfl, _, rfl, _, _, rfl, rfl, a, c, _, rfl, B7, by omega, by omega, fun r8 H8 h8a h8b B8 k8 => ?_⟩
      refine ⟨_, _, rfl, rfl, _, rfl, _, _, rfl, rfl, (by show (0 : Int) < rooms; omega), (by show 2 ≤ sizeLine; decide), fun p3 n3 => ?_⟩
      obtain ⟨x1, rfl⟩ : ∃ x : Nat, r7 = (x : Int) := ⟨r7.toNat, by omega⟩
      obtain ⟨x8, rfl⟩ : ∃ x : Nat, r8 = (x : Int) := ⟨r8.toNat, by omega⟩
      have ex : ((x1 : Int) + 1 + (x8 : Int)) % (rooms : Int) = (((x1 + 1 + x8) % rooms : Nat) : Int) := rfl
      have ok1 : x1 < rooms ∧ (x1 + 1 + x8) % rooms < rooms ∧ x1 ≠ (x1 + 1 + x8) % rooms := by
        refine ⟨by omega, Nat.mod_lt _ (by omega), fun z => ?_⟩
        by_cases hs : x1 + 1 + x8 < rooms
        · rw [Nat.mod_eq_of_lt hs] at z; omega
        · rw [Nat.mod_eq_sub_mod (by omega), Nat.mod_eq_of_lt (by omega)] at z; omega
      have k68 : Kp [a, c] H6 H8 := k7.trans k8
      have D8 : H8 D = some (.lst vs) := k68.at hD oD
      have o3 : p3 ≠ D := ne_new D8 n3
      have k9 : Kp [a, c] H6 (upd H8 p3 (.tup [.int (x1 : Int), .int (((x1 : Int) + 1 + (x8 : Int)) % (rooms : Int))])) := k68.new (k68.free n3)
      have hds9 := dps_same (k9.mono sub) hds
      have D9 : (upd H8 p3 (.tup [.int (x1 : Int), .int (((x1 : Int) + 1 + (x8 : Int)) % (rooms : Int))])) D = some (.lst vs) := by rw [upd_ne o3.symm]; exact D8
      have B9 := B8.new (o := .tup [.int (x1 : Int), .int (((x1 : Int) + 1 + (x8 : Int)) % (rooms : Int))]) n3
      have p9 : Dp K (hid [a, c, D] (upd H8 p3 (.tup [.int (x1 : Int), .int (((x1 : Int) + 1 + (x8 : Int)) % (rooms : Int))]))) (.ref p3) (pairD (x1, (x1 + 1 + x8) % rooms)) := by
        refine mk_pair (hid_of upd_same ?_) (.int _) ?_
        · intro z
          simp only [List.mem_cons, List.not_mem_nil, or_false] at z
          have := B8.out n3
          rcases z with z | z | z
          · exact this (by simp [z])
          · exact this (by simp [z])
          · exact o3 z
        · rw [ex]; exact .int _
      have k69 : Kp [a, c] H (upd H8 p3 (.tup [.int (x1 : Int), .int (((x1 : Int) + 1 + (x8 : Int)) % (rooms : Int))])) := k6.trans k9
      generalize hG : upd H8 p3 (.tup [.int (x1 : Int), .int (((x1 : Int) + 1 + (x8 : Int)) % (rooms : Int))]) = H9 at hds9 D9 B9 p9 k69 k9
      refine ⟨fun σ' H' => ∃ (p : Addr) (d : Nat × Nat), σ' = [some (.ref a), some (.int most), some (.int wide), some (.int rooms), some (.ref D), some (.int (0 + (i : Int))), some (.int (x1 : Int)), some (.ref p)] ∧ H' D = some (.lst vs) ∧
        DpAll K (hid [a, c, D] H') vs (ds.map pairD) ∧ Dp K (hid [a, c, D] H') (.ref p) (pairD d) ∧ (d.1 < rooms ∧ d.2 < rooms ∧ d.1 ≠ d.2) ∧ Bag H' a c ∧ Kp [a, c] H H', ?_, ?_⟩
      · -- if doors != [] and draw(bag, 5) == 0
        have s9 : Dp K H9 (.ref D) (doorsD ds) := .lst (.inl (.inl D9)) (dps_same hid_same hds9)
        refine ⟨_, rfl, Nat.zero_le _, fun q1 nq1 => ⟨doorsD ds, .list [], dp_same (same_new nq1) s9, .lst (.inl (.inl upd_same)) .nil, (shp_doors (n := 0) ds).ok (by decide), rfl, _, rfl, ite2 (fun e => ?_) (fun e => ?_)⟩⟩
        · have hne : ds ≠ [] := fun z => by
            rw [z] at e
            exact absurd e (by decide)
          have hpos : 0 < ds.length := List.length_pos_iff.mpr hne
          have hvl : vs.length = ds.length := by rw [dps_len hds, List.length_map]
          have nDq : D ≠ q1 := (ne_new D9 nq1).symm
          refine ⟨_, rfl, a, c, 5, rfl, B9.new nq1, by decide, by decide, fun r10 H10 h10a h10b B10 k10 => ⟨rfl, _, rfl, ite2 (fun e2 => ?_) (fun e2 => ?_)⟩⟩
          all_goals
            have k11 : Kp [a, c] H9 H10 := (Kp.refl.new (hid_none nq1)).trans k10
            have D10 : H10 D = some (.lst vs) := k11.at D9 oD
            have hds10 := dps_same (k11.mono sub) hds9
          · refine ⟨_, rfl, _, rfl, _, rfl, _, _, rfl, .inl (.inl (.inl D10)), a, c, _, rfl, B10, by omega, by omega, fun r11 H11 h11a h11b B11 k12 => ?_⟩
            obtain ⟨j, rfl⟩ : ∃ j : Nat, r11 = (j : Int) := ⟨r11.toNat, by omega⟩
            have hj : j < ds.length := by omega
            have D11 : H11 D = some (.lst vs) := k12.at D10 oD
            have hds11 := dps_same (k12.mono sub) hds10
            obtain ⟨v, ev, dv⟩ := dps_at hds11 (i := j) (d := pairD ds[j]) (by rw [List.getElem?_map, List.getElem?_eq_getElem hj]; rfl)
            obtain ⟨pa, xa, ya, rfl, sp, dx, dy⟩ := dp_pair dv
            obtain rfl := dp_int dx
            obtain rfl := dp_int dy
            have okj := hok ds[j] (List.getElem_mem hj)
            refine ⟨_, _, _, _, rfl, rfl, .inl (.inl D11), atI_nat ev, _, rfl, _, _, _, _, rfl, rfl, same_tup hid_same sp, .inr rfl, (fun z => absurd z (by decide)), fun _ p np => ?_⟩
            have ep : p ≠ D := ne_new D11 np
            have k13 : Kp [a, c] H9 (upd H11 p (.tup [.int (ds[j].2 : Int), .int (ds[j].1 : Int)])) := (k11.trans k12).new ((k11.trans k12).free np)
            refine ⟨p, (ds[j].2, ds[j].1), rfl, by rw [upd_ne ep.symm]; exact D11, dps_same (k13.mono sub) hds9, mk_pair (hid_of upd_same ?_) (.int _) (.int _), ⟨okj.2.1, okj.1, okj.2.2.symm⟩, B11.new np, k69.trans k13⟩
            intro z
            simp only [List.mem_cons, List.not_mem_nil, or_false] at z
            have := B11.out np
            rcases z with z | z | z
            · exact this (by simp [z])
            · exact this (by simp [z])
            · exact ep z
          · exact ⟨p3, _, rfl, D10, hds10, dp_same (k11.mono sub) p9, ok1, B10, k69.trans k11⟩
        · refine ifF (by decide) ?_
          have k11 : Kp [a, c] H9 (upd H9 q1 (.lst [])) := Kp.refl.new (hid_none nq1)
          exact ⟨p3, _, rfl, k11.at D9 oD, dps_same (k11.mono sub) hds9, dp_same (k11.mono sub) p9, ok1, B9.new nq1, k69.trans k11⟩
      · rintro σ' H' ⟨p, d, rfl, hD', hds', hp', hok', B', k'⟩
        have hvl : vs.length = ds.length := by rw [dps_len hds, List.length_map]
        refine ⟨_, rfl, .inl ⟨rfl, _, .inl (.inl hD')⟩, _, rfl, _, _, _, rfl, rfl, hD', small1000 (by omega), ?_⟩
        refine ⟨ds ++ [d], vs ++ [.ref p], _, _, _, rfl, upd_same, ?_, by rw [List.length_append, hlen]; rfl, ?_, B'.wr oD, k'.new nDH⟩
        · rw [List.map_append]
          have kk : Same (hid [a, c, D] H') (hid [a, c, D] (upd H' D (.lst (vs ++ [.ref p])))) := Kp.refl.wr (by simp)
          exact dps_app (dps_same kk hds') (.cons (dp_same kk hp') .nil)
        · intro x hx
          rcases List.mem_append.mp hx with hx | hx
          · exact hok x hx
          · rw [List.mem_singleton.mp hx]; exact hok'
    · rintro σ H6 ⟨ds, vs, x, y, z, rfl, hD, hds, hlen, hok, B6, k6⟩
      refine ⟨_, rfl, _, rfl, (by show 2 ≤ sizeLine; decide), fun p np => ?_⟩
      refine q _ _ rooms ds r0 (by omega) (by omega) hok (B6.new np) (k6.new (k6.free np)) (mk_pair (hid_of upd_same (B6.out np)) (.int _) ?_)
      refine .lst (.inl (.inl (hid_of (by rw [upd_ne (ne_new hD np).symm]; exact hD) oD))) (dps_same (fun b o e => ?_) hds)
      obtain ⟨e1, e2⟩ := of_hid e
      refine hid_of ?_ (fun z => e2 (by simp only [List.mem_cons, List.not_mem_nil, or_false] at z ⊢; rcases z with z | z <;> simp [z]))
      rw [upd_ne (ne_of_none e1 np)]
      exact e1
end
end Bd
namespace Bd
open PySem PySem.Spec PyProof.Rows L2 HT
abbrev sMet : Stmt := topS 1
theorem scMet : FnScope ["house", "counts", "rooms", "doors", "sums", "a", "b", "count"] ["house", "counts"] (defScope sMet) := ⟨rfl, rfl, rfl, by decide +kernel, rfl, by decide +kernel, by decide +kernel⟩
section
variable {P : Program} {w : World} {K : PySem.W.Frag} {mg : Str → Option Value} {base : Heap}
theorem ok_met {f : Addr} {fd : FuncData} (F : Fun K "met" "met" sMet f fd) (m_zip : mg "zip" = none) :
    FnOk P w K mg base CX0 1 f fd ["house", "counts"] (spMet K) := by
  have sc := scMet
  refine F.ok scMet (fun vs H Q E h => ?_) (fun cdv A outer s H vs Q E hr h => ?_)
  · obtain ⟨hv, cv, rooms, ds, cs, rfl, _⟩ := h
    rfl
  · obtain ⟨hv, cv, rooms, ds, cs, rfl, hh, hc, hro, hlc, hld, hok, q⟩ := h
    refine ⟨_, (pss_cons (ps_asg (pv 0) (pg_tup (by rfl) (pgs_cons (pg_name (i := 2) sc.nd rfl (.inl rfl)) (pgs_cons (pg_name (i := 3) sc.nd rfl (.inl rfl)) pgs_nil))))
  (pss_cons (ps_set (i := 4) sc.nd rfl (.inl rfl) (pe_op op_rep (pe_lst (pa_cons pe_int pa_nil)) (pv 2)))
  (pss_cons (ps_for PassesOwn.never rfl (pi_zip (by rfl) m_zip (pa_cons (pv 3) (pa_cons (pv 1) pa_nil))) (pg_tup (by rfl) (pgs_cons (pg_tup (by rfl) (pgs_cons (pg_name (i := 5) sc.nd rfl (.inl rfl)) (pgs_cons (pg_name (i := 6) sc.nd rfl (.inl rfl)) pgs_nil))) (pgs_cons (pg_name (i := 7) sc.nd rfl (.inl rfl)) pgs_nil)))
    (pss_cons (ps_augS (pv 4) (pv 5) get_list (pv 7) ip_add set_list)
  (pss_one (ps_augS (pv 4) (pv 6) get_list (pv 7) ip_add set_list))))
  (pss_one (ps_ret (pv 4)))))), ?_⟩
    obtain ⟨ah, ad, vs, rfl, t1, l1, a1⟩ := house_of hh
    obtain ⟨ac, rfl, lc⟩ := dp_ints hc
    have hvl : vs.length = ds.length := by rw [dps_len a1, List.length_map]
    -- rooms, doors = house
    refine ⟨_, rfl, ah, _, rfl, t1, rfl, _, _, rfl, _, _, rfl, rfl, ?_⟩
    -- sums = [0] * rooms
    refine ⟨(by show 1 ≤ sizeLine; decide), fun p np => ?_⟩
    refine ⟨_, rfl, p, _, _, rfl, rfl, upd_same, by omega, by omega, ?_, fun S nS => ?_⟩
    · show 1 * (Int.toNat (rooms : Int)) ≤ sizeLine
      rw [Int.toNat_natCast, Nat.one_mul]
      exact Nat.le_of_lt (small1000 (by omega))
    have e0 : (List.replicate (Int.toNat (rooms : Int)) [V.int 0]).flatten = (metL rooms ((ds.zip cs).take 0)).map V.int := by
      rw [Int.toNat_natCast, List.take_zero, metL_nil, flat_rep]
    have s0 : Same H (upd (upd H p (.lst [.int 0])) S (.lst ((metL rooms ((ds.zip cs).take 0)).map V.int))) := (same_new np).trans (same_new nS)
    have nSH : H S = none := (same_new np).free nS
    rw [e0]
    refine ⟨_, rfl, _, rfl, ad, ac, vs, cs.map V.int, rfl, s0.seq l1, s0.seq lc, RZ.for_zipL (K := K) (xs := vs) (ys := cs.map V.int) (by rw [List.length_map]; omega) (fun i σ H1 => ∃ x y z, σ = [some (.ref ah), some (.ref ac), some (.int rooms), some (.ref ad), some (.ref S), x, y, z] ∧ Same H H1 ∧ H1 S = some (.lst ((metL rooms ((ds.zip cs).take i)).map V.int)))
      ⟨_, _, _, rfl, s0, upd_same⟩ (fun i σ H1 ⟨_, _, _, _, k, _⟩ => ⟨k.seq l1, k.seq lc⟩) ?_ ?_⟩
    · rintro i x y T σ H1 hx hy ⟨_, _, _, rfl, k, hS⟩ nT
      obtain ⟨d, pp, ed, rfl, tp⟩ := pairs_at a1 hx
      obtain ⟨c, rfl, ec⟩ := ints_at hy
      obtain ⟨ok1, ok2, ok3⟩ := hok d (List.mem_of_getElem? ed)
      have k2 : Same H (upd H1 T (.tup [.ref pp, .int c])) := k.trans (same_new nT)
      refine ⟨T, _, rfl, .inl (.inl upd_same), rfl, _, _, rfl, pp, _, rfl, same_tup k2 tp, rfl, _, _, rfl, _, _, rfl, rfl, _, _, rfl, rfl, ?_⟩
      have hS2 : (upd H1 T (.tup [.ref pp, .int c])) S = some (.lst ((metL rooms ((ds.zip cs).take i)).map V.int)) := by rw [upd_ne (ne_new hS nT).symm]; exact hS
      -- sums[a] += count
      have g1 : ((metL rooms ((ds.zip cs).take i)).map V.int)[d.1]? = some (.int (metAt ((ds.zip cs).take i) d.1)) := by rw [List.getElem?_map, metL_at _ ok1]; rfl
      refine ⟨_, rfl, _, rfl, _, _, _, _, rfl, rfl, by omega, .inl (.inl hS2), atI_nat g1, _, rfl, _, _, rfl, rfl, _, _, _, d.1, rfl, rfl, hS2, ?_, ?_⟩
      · rw [List.length_map, metL_len]; exact ixN_nat ok1
      -- sums[b] += count
      have hz := zip_at ed ec
      have g2 : (((metL rooms ((ds.zip cs).take i)).map V.int).set d.1 (.int (metAt ((ds.zip cs).take i) d.1 + c)))[d.2]? = some (.int (metAt ((ds.zip cs).take i) d.2)) := by
        rw [List.getElem?_set_ne ok3, List.getElem?_map, metL_at _ ok2]; rfl
      refine ⟨_, rfl, _, rfl, _, _, _, _, rfl, rfl, by omega, .inl (.inl upd_same), atI_nat g2, _, rfl, _, _, rfl, rfl, _, _, _, d.2, rfl, rfl, upd_same, ?_, ?_⟩
      · rw [List.length_set, List.length_map, metL_len]; exact ixN_nat ok2
      rw [upd_upd]
      refine ⟨_, _, _, rfl, fun b o e => ?_, ?_⟩
      · rw [upd_ne (ne_of_none e nSH)]; exact k2 b o e
      · rw [upd_same, take_snoc hz, ← metL_snoc (rooms := rooms) ((ds.zip cs).take i) (d, c) ok1 ok2 ok3, List.map_set, List.map_set]
    · rintro σ H1 ⟨_, _, _, rfl, k, hS⟩
      refine ⟨_, rfl, q H1 S k nSH ?_⟩
      rw [hS, hvl, List.take_of_length_le (by rw [List.length_zip]; omega)]
end
end Bd
namespace Bd
open PySem PySem.Spec PyProof.Rows L2 HT
abbrev sLeaving : Stmt := topS 2
theorem scLeaving : FnScope ["house", "counts", "lot", "doors", "count", "a", "b"] ["house", "counts", "lot"] (defScope sLeaving) := ⟨rfl, rfl, rfl, by decide +kernel, rfl, by decide +kernel, by decide +kernel⟩
section
variable {P : Program} {w : World} {K : PySem.W.Frag} {mg : Str → Option Value} {base : Heap}
theorem ok_leaving {f : Addr} {fd : FuncData} (F : Fun K "leaving" "leaving" sLeaving f fd) (m_zip : mg "zip" = none) (m_sum : mg "sum" = none) :
    FnOk P w K mg base CX0 1 f fd ["house", "counts", "lot"] (spLeave K) := by
  have sc := scLeaving
  refine F.ok scLeaving (fun vs H Q E h => ?_) (fun cdv A outer s H vs Q E hr h => ?_)
  · obtain ⟨hv, cv, lv, rooms, ds, cs, lot, rfl, _⟩ := h
    rfl
  · obtain ⟨hv, cv, lv, rooms, ds, cs, lot, rfl, hh, hc, hl, hlc, hld, q⟩ := h
    refine ⟨_, (pss_cons (ps_set (i := 3) sc.nd rfl (.inl rfl) (pe_ix ix_tup (pv 0) pe_int (fun _ _ => rfl)))
  (pss_one (ps_ret (pe_callB (cr_sum rfl) (by rfl) m_sum (by decide +kernel) (pa_cons (pe_lc (own := [("count", 4), ("a", 5), ("b", 6)]) (g := gTup K 2 (gCons (gTup K 2 (gCons (gName 5) (gCons (gName 6) gNil))) (gCons (gName 4) gNil)))  (by rfl) sc.nd  (pi_zip (by rfl) m_zip (pa_cons (pv 3) (pa_cons (pv 1) pa_nil))) (blkOk_by (own := [("count", 4), ("a", 5), ("b", 6)]) (N := ["house", "counts", "lot", "doors", "count", "a", "b"]) (sc := defScope sLeaving) (by decide +kernel)) (fun _ _ _ _ _ => (pg_tup (by rfl) (pgs_cons (pg_tup (by rfl) (pgs_cons (pg_name (i := 5) sc.nd rfl (.inl rfl)) (pgs_cons (pg_name (i := 6) sc.nd rfl (.inl rfl)) pgs_nil))) (pgs_cons (pg_name (i := 4) sc.nd rfl (.inl rfl)) pgs_nil)))) (fun _ _ _ _ _ => (pts_one (pt_cmpR op_ne (pe_cmpR (opK (rIn K false) op_in_seq) (pv 5) (pv 2) rfl) (pe_cmpR (opK (rIn K false) op_in_seq) (pv 6) (pv 2) rfl) (nomark _)))) (fun _ _ _ _ _ => (pv 4))) pa_nil))))), ?_⟩
    obtain ⟨ah, ad, vs, rfl, t1, l1, a1⟩ := house_of hh
    obtain ⟨ac, rfl, lc⟩ := dp_ints hc
    obtain ⟨al, rfl, ll⟩ := dp_ints hl
    have hvl : vs.length = ds.length := by rw [dps_len a1, List.length_map]
    -- doors = house[1]
    refine ⟨_, rfl, _, _, _, _, rfl, rfl, t1, rfl, ?_⟩
    -- the counts that leave
    refine ⟨_, rfl, _, rfl, ad, ac, vs, cs.map V.int, rfl, l1, lc, fun D nD => ?_⟩
    refine lc_it (walk_zip (K := K) (a := ad) (b := ac) (xs := vs) (ys := cs.map V.int) (n := ds.length) (by rw [List.length_map]; omega)) (fun i H1 => Same H H1 ∧ H1 D = some (.lst ((((ds.zip cs).take i).filter (lvAt lot)).map fun x => V.int x.2)))
      ⟨same_new nD, upd_same⟩ (fun i H1 _ ⟨k, _⟩ => ⟨k.seq l1, k.seq lc⟩) ?_ ?_
    · rintro i x H1 H2 hi ⟨k, hD⟩ ⟨T, x1, x2, rfl, nT, rfl, f1, f2⟩
      obtain ⟨d, pp, ed, rfl, tp⟩ := pairs_at a1 f1
      obtain ⟨c, rfl, ec⟩ := ints_at f2
      have hz := zip_at ed ec
      have k2 : Same H (upd H1 T (.tup [.ref pp, .int c])) := k.trans (same_new nT)
      have hD2 : (upd H1 T (.tup [.ref pp, .int c])) D = some (.lst ((((ds.zip cs).take i).filter (lvAt lot)).map fun x => V.int x.2)) := by rw [upd_ne (ne_new hD nT).symm]; exact hD
      refine ⟨T, _, rfl, .inl (.inl upd_same), rfl, _, _, rfl, pp, _, rfl, same_tup k2 tp, rfl, _, _, rfl, _, _, rfl, rfl, _, _, rfl, rfl, rfl, ?_⟩
      refine ⟨_, rfl, _, rfl, _, _, rfl, .inl (k2.seq ll), rfl, flat_ints _, _, rfl, _, rfl, _, _, rfl, .inl (k2.seq ll), rfl, flat_ints _, rfl, _, rfl, ?_⟩
      have eb : (!decide (V.bl (if false = true then !inV (V.int (d.1 : Nat)) ((natsL lot).map V.int) else inV (V.int (d.1 : Nat)) ((natsL lot).map V.int)) = V.bl (if false = true then !inV (V.int (d.2 : Nat)) ((natsL lot).map V.int) else inV (V.int (d.2 : Nat)) ((natsL lot).map V.int)))) = lvAt lot (d, c) := by
        rw [if_neg (by decide), if_neg (by decide), inV_nats, inV_nats]
        show (!decide (V.bl (decide (d.1 ∈ lot)) = V.bl (decide (d.2 ∈ lot)))) = (decide (d.1 ∈ lot) != decide (d.2 ∈ lot))
        cases decide (d.1 ∈ lot) <;> cases decide (d.2 ∈ lot) <;> rfl
      rw [eb]
      have ht := leave_take (lot := lot) hz
      refine ite2 (fun e => ?_) (fun e => ?_)
      · rw [if_pos e] at ht
        refine ⟨_, rfl, _, hD2, ?_, fun b o z => ?_, ?_⟩
        · rw [List.length_map]
          refine small1000 (Nat.le_trans (List.length_filter_le _ _) ?_)
          rw [List.length_take, List.length_zip]
          omega
        · rw [upd_ne (ne_of_none z nD)]; exact k2 b o z
        · rw [upd_same]
          have h2 := congrArg (List.map V.int) ht
          rw [List.map_append, List.map_map, List.map_map] at h2
          exact congrArg (fun l => some (HO.lst l)) h2.symm
      · rw [if_neg e] at ht
        refine ⟨k2, ?_⟩
        rw [hD2]
        have h2 := congrArg (List.map V.int) ht
        rw [List.map_map, List.map_map] at h2
        exact congrArg (fun l => some (HO.lst l)) h2.symm
    · rintro H1 ⟨k, hD⟩
      rw [List.take_of_length_le (by rw [List.length_zip]; omega)] at hD
      refine ⟨D, ((ds.zip cs).filter (lvAt lot)).map Prod.snd, rfl, .inl (.inl (by rw [hD, List.map_map]; rfl)), q H1 k⟩
end
end Bd
namespace Bd
open PySem PySem.Spec PyProof.Rows L2 HT
abbrev sParts : Stmt := topS 3
theorem scParts : FnScope ["house", "counts", "rooms", "doors", "leaders", "a", "b", "count", "low", "high", "leader", "first", "room"] ["house", "counts"] (defScope sParts) := ⟨rfl, rfl, rfl, by decide +kernel, rfl, by decide +kernel, by decide +kernel⟩
section
variable {P : Program} {w : World} {K : PySem.W.Frag} {mg : Str → Option Value} {base : Heap}
theorem ok_parts {f : Addr} {fd : FuncData} (F : Fun K "parts" "parts" sParts f fd) (m_list : mg "list" = none) (m_range : mg "range" = none) (m_zip : mg "zip" = none) (m_sorted : mg "sorted" = none) (m_set : mg "set" = none) :
    FnOk P w K mg base CX0 1 f fd ["house", "counts"] (spParts K) := by
  have sc := scParts
  refine F.ok scParts (fun vs H Q E h => ?_) (fun cdv A outer s H vs Q E hr h => ?_)
  · obtain ⟨hv, cv, rooms, ds, cs, rfl, _⟩ := h
    rfl
  · obtain ⟨hv, cv, rooms, ds, cs, rfl, hh, hc, hro, hlc, hld, hok, q⟩ := h
    refine ⟨_, (pss_cons (ps_asg (pv 0) (pg_tup (by rfl) (pgs_cons (pg_name (i := 2) sc.nd rfl (.inr rfl)) (pgs_cons (pg_name (i := 3) sc.nd rfl (.inl rfl)) pgs_nil))))
  (pss_cons (ps_set (i := 4) sc.nd rfl (.inr rfl) (pe_listRg (by rfl) (by rfl) m_list (prg_1 (by rfl) m_range (pv 2))))
  (pss_cons (ps_for PassesOwn.never rfl (pi_zip (by rfl) m_zip (pa_cons (pv 3) (pa_cons (pv 1) pa_nil))) (pg_tup (by rfl) (pgs_cons (pg_tup (by rfl) (pgs_cons (pg_name (i := 5) sc.nd rfl (.inl rfl)) (pgs_cons (pg_name (i := 6) sc.nd rfl (.inl rfl)) pgs_nil))) (pgs_cons (pg_name (i := 7) sc.nd rfl (.inl rfl)) pgs_nil)))
    (pss_one (ps_if (pt_cmpR op_gt (pv 7) pe_int (nomark _))
    (pss_cons (ps_asg (pe_callB cr_sorted (by rfl) m_sorted (by decide +kernel) (pa_cons (pe_lst (pa_cons (pe_ix ix_list (pv 4) (pv 5) (fun _ _ => rfl)) (pa_cons (pe_ix ix_list (pv 4) (pv 6) (fun _ _ => rfl)) pa_nil))) pa_nil)) (pg_unl (by rfl) (pgs_cons (pg_name (i := 8) sc.nd rfl (.inr rfl)) (pgs_cons (pg_name (i := 9) sc.nd rfl (.inr rfl)) pgs_nil))))
  (pss_one (ps_set (i := 4) sc.nd rfl (.inr rfl) (pe_lc (own := [("leader", 10)]) (g := gName 10) (tt := tYes) (by rfl) sc.nd  (pi_list (pv 4)) (blkOk_by (own := [("leader", 10)]) (N := ["house", "counts", "rooms", "doors", "leaders", "a", "b", "count", "low", "high", "leader", "first", "room"]) (sc := defScope sParts) (by decide +kernel)) (fun _ _ _ _ _ => (pg_name (i := 10) sc.nd rfl (.inl rfl))) (fun _ _ _ _ _ => pts_nil) (fun _ _ _ _ _ => (pe_ifExp (pt_cmpR op_eq (pv 10) (pv 9) (nomark _)) (pv 8) (pv 10)))))))
    pss_nil)))
  (pss_one (ps_ret (pe_lc (own := [("first", 11)]) (g := gName 11) (tt := tYes) (by rfl) sc.nd  (pi_list (pe_callB (cr_sortedSet rfl) (by rfl) m_sorted (by decide +kernel) (pa_cons (pe_callTy (call_setL rfl) (by rfl) m_set (by decide +kernel) (pa_cons (pv 4) pa_nil)) pa_nil))) (blkOk_by (own := [("first", 11)]) (N := ["house", "counts", "rooms", "doors", "leaders", "a", "b", "count", "low", "high", "leader", "first", "room"]) (sc := defScope sParts) (by decide +kernel)) (fun _ _ _ _ _ => (pg_name (i := 11) sc.nd rfl (.inr rfl))) (fun _ _ _ _ _ => pts_nil) (fun _ _ _ _ _ => (pe_lc (own := [("room", 12)]) (g := gName 12)  (by rfl) sc.nd  (pi_range1 (by rfl) m_range (pa_cons (pv 2) pa_nil)) (blkOk_by (own := [("room", 12)]) (N := ["house", "counts", "rooms", "doors", "leaders", "a", "b", "count", "low", "high", "leader", "first", "room"]) (sc := { kind := PySem.ScopeKind.function, names := [ (PySem.Str.ofString ".0", PySem.NameKind.local), (PySem.Str.ofString "first", PySem.NameKind.cell), (PySem.Str.ofString "range", PySem.NameKind.globalImplicit), (PySem.Str.ofString "leaders", PySem.NameKind.cell), (PySem.Str.ofString "rooms", PySem.NameKind.cell)], isGenerator := false, isCoroutine := false, more := [] : PySem.Scope }) (by decide +kernel)) (fun _ _ _ _ _ => (pg_name (i := 12) sc.nd rfl (.inl rfl))) (fun _ _ _ _ _ => (pts_one (pt_cmpR op_eq (pe_ix (ixK (rIxL K) ix_list) (pv 4) (pv 12) (fun _ _ => rfl)) (pv 11) (nomark _)))) (fun _ _ _ _ _ => (pv 12)))))))))), ?_⟩
    obtain ⟨ah, ad, vs, rfl, t1, l1, a1⟩ := house_of hh
    obtain ⟨ac, rfl, lc⟩ := dp_ints hc
    have hvl : vs.length = ds.length := by rw [dps_len a1, List.length_map]
    have hzr := zip_rooms (cs := cs) hok
    -- rooms, doors = house; leaders = list(range(rooms))
    refine ⟨_, rfl, ah, _, rfl, t1, rfl, _, _, rfl, _, _, rfl, rfl, ?_⟩
    refine ⟨_, rfl, _, rfl, RgOk.of_le (by omega) (by omega) (by omega) (by omega), fun p0 np0 => ?_⟩
    rw [rgV_nats]
    have k0 : Same H (upd H p0 (.lst ((natsL (List.range rooms)).map V.int))) := same_new np0
    -- the leaders
    refine ⟨_, rfl, _, rfl, ad, ac, vs, cs.map V.int, rfl, k0.seq l1, k0.seq lc, RZ.for_zipL (K := K) (xs := vs) (ys := cs.map V.int) (by rw [List.length_map]; omega)
      (fun i σ H1 => ∃ l x1 x2 x3 x4 x5 x6 x7 x8, σ = [some (.ref ah), some (.ref ac), some (.int rooms), some (.ref ad), some (.ref l), x1, x2, x3, x4, x5, x6, x7, x8] ∧ Same H H1 ∧ H1 l = some (.lst ((natsL (leadL rooms ((ds.zip cs).take i))).map V.int)))
      ⟨p0, _, _, _, _, _, _, _, _, rfl, k0, by rw [upd_same, List.take_zero]; rfl⟩ (fun i σ H1 ⟨_, _, _, _, _, _, _, _, _, _, k, _⟩ => ⟨k.seq l1, k.seq lc⟩) ?_ ?_⟩
    · rintro i x y T σ H1 hx hy ⟨l, x1, x2, x3, x4, x5, x6, x7, x8, rfl, k1, hl⟩ nT
      obtain ⟨d, pp, ed, rfl, tp⟩ := pairs_at a1 hx
      obtain ⟨c, rfl, ec⟩ := ints_at hy
      obtain ⟨ok1, ok2, ok3⟩ := hok d (List.mem_of_getElem? ed)
      have hz := zip_at ed ec
      have k2 : Same H (upd H1 T (.tup [.ref pp, .int c])) := k1.trans (same_new nT)
      have hl2 : (upd H1 T (.tup [.ref pp, .int c])) l = some (.lst ((natsL (leadL rooms ((ds.zip cs).take i))).map V.int)) := (same_new nT) _ _ hl
      have hL : Led rooms ((ds.zip cs).take i) (leadL rooms ((ds.zip cs).take i)) := led_all _ fun x hx => hzr x (List.mem_of_mem_take hx)
      refine ⟨T, _, rfl, .inl (.inl upd_same), rfl, _, _, rfl, pp, _, rfl, same_tup k2 tp, rfl, _, _, rfl, _, _, rfl, rfl, _, _, rfl, rfl, ?_⟩
      generalize (upd H1 T (.tup [.ref pp, .int c])) = H2 at k2 hl2 ⊢
      have nx : leadL rooms ((ds.zip cs).take (i + 1)) = leadStep (leadL rooms ((ds.zip cs).take i)) (d, c) := by rw [take_snoc hz, leadL_snoc]
      rw [nx]
      generalize leadL rooms ((ds.zip cs).take i) = L at hL hl2 ⊢
      have la : d.1 < L.length := by rw [hL.len]; exact ok1
      have lb : d.2 < L.length := by rw [hL.len]; exact ok2
      have ga : ((natsL L).map V.int)[d.1]? = some (.int (L.getD d.1 0 : Nat)) := by
        rw [List.getElem?_map, natsL_at (r := L.getD d.1 0) (by rw [List.getD_eq_getElem?_getD, List.getElem?_eq_getElem la]; rfl)]; rfl
      have gb : ((natsL L).map V.int)[d.2]? = some (.int (L.getD d.2 0 : Nat)) := by
        rw [List.getElem?_map, natsL_at (r := L.getD d.2 0) (by rw [List.getD_eq_getElem?_getD, List.getElem?_eq_getElem lb]; rfl)]; rfl
      -- if count > 0
      refine ⟨_, rfl, _, _, rfl, rfl, _, rfl, ite2 (fun e => ?_) (fun e => ?_)⟩
      · have hc : 0 < c := of_decide_eq_true e
        refine ⟨_, rfl, _, rfl, _, _, _, _, rfl, rfl, .inl (.inl hl2), atI_nat ga, _, rfl, _, rfl, _, _, _, _, rfl, rfl, .inl (.inl hl2), atI_nat gb, (by show 2 ≤ sizeLine; decide), fun q1 nq1 => ?_⟩
        refine ⟨q1, [(L.getD d.1 0 : Nat), (L.getD d.2 0 : Nat)], rfl, .inl (.inl upd_same), (by show 2 < 64; decide), fun zs p2 pm pw np2 => ?_⟩
        have k3 := (k2.trans (same_new (o := .lst [V.int (L.getD d.1 0 : Nat), V.int (L.getD d.2 0 : Nat)]) nq1)).trans (same_new (o := .lst (zs.map V.int)) np2)
        have hl3 := (same_new (o := .lst (zs.map V.int)) np2) _ _ ((same_new (o := .lst [V.int (L.getD d.1 0 : Nat), V.int (L.getD d.2 0 : Nat)]) nq1) _ _ hl2)
        have e2 := sort_two pm pw
        refine ⟨p2, _, rfl, .inl (.inl upd_same), by rw [e2]; rfl, ?_⟩
        rw [e2]
        refine ⟨_, _, rfl, _, _, rfl, rfl, ?_⟩
        rw [← e2]
        generalize upd _ p2 (.lst (zs.map V.int)) = H3 at k3 hl3 ⊢
        -- leaders = [low if leader == high else leader for leader in leaders]
        refine ⟨_, rfl, l, rfl, ⟨_, .inl (.inl hl3)⟩, fun D nD => ?_⟩
        refine lc_list (K := K) (a := l) (xs := (natsL L).map V.int) (fun j H4 => Same H3 H4 ∧ H4 D = some (.lst ((natsL ((relab L d.1 d.2).take j)).map V.int))) ⟨same_new nD, upd_same⟩ (fun j H4 _ ⟨k4, _⟩ => .inl (.inl (k4 _ _ hl3))) ?_ ?_
        · rintro j v H4 hv ⟨k4, hD⟩
          obtain ⟨r, rfl, er⟩ := nats_at hv
          have hj := lt_of_at er
          have en : (relab L d.1 d.2)[j]? = some (if r = max (L.getD d.1 0) (L.getD d.2 0) then min (L.getD d.1 0) (L.getD d.2 0) else r) := by
            unfold relab
            rw [List.getElem?_map, er]
            rfl
          refine ⟨rfl, _, rfl, _, rfl, rfl, _, rfl, ?_⟩
          have fin : ∀ v : Nat, v = (if r = max (L.getD d.1 0) (L.getD d.2 0) then min (L.getD d.1 0) (L.getD d.2 0) else r) → ∃ acc, H4 D = some (.lst acc) ∧ acc.length < sizeLine ∧ (Same H3 (upd H4 D (.lst (acc ++ [V.int (v : Int)]))) ∧ (upd H4 D (.lst (acc ++ [V.int (v : Int)]))) D = some (.lst ((natsL ((relab L d.1 d.2).take (j + 1))).map V.int))) := by
            intro v ev
            refine ⟨_, hD, ?_, fun b o z => ?_, ?_⟩
            · rw [List.length_map, natsL_len, List.length_take]
              exact small1000 (by rw [hL.len] at hj; omega)
            · rw [upd_ne (ne_of_none z nD)]; exact k4 b o z
            · rw [upd_same, take_snoc en, ← ev]
              unfold natsL
              rw [List.map_append, List.map_append]
              rfl
          have dec : (V.int (r : Int) = V.int (max (L.getD d.1 0 : Int) (L.getD d.2 0 : Int))) ↔ r = max (L.getD d.1 0) (L.getD d.2 0) := by
            constructor
            · intro q; have := V.int.inj q; omega
            · intro q; exact congrArg V.int (by omega)
          refine ite2 (fun e3 => ?_) (fun e3 => ?_)
          · have e4 := dec.mp (of_decide_eq_true e3)
            obtain ⟨acc, f1, f2, f3⟩ := fin (min (L.getD d.1 0) (L.getD d.2 0)) (by rw [if_pos e4])
            have e5 : ((min (L.getD d.1 0) (L.getD d.2 0) : Nat) : Int) = min (L.getD d.1 0 : Int) (L.getD d.2 0 : Int) := by omega
            rw [e5] at f3
            exact ⟨_, rfl, acc, f1, f2, f3⟩
          · have e4 : ¬ r = max (L.getD d.1 0) (L.getD d.2 0) := fun q => e3 (decide_eq_true (dec.mpr q))
            obtain ⟨acc, f1, f2, f3⟩ := fin r (by rw [if_neg e4])
            exact ⟨_, rfl, acc, f1, f2, f3⟩
        · rintro H4 ⟨k4, hD⟩
          refine ⟨D, _, _, _, _, _, _, _, _, rfl, k3.trans k4, ?_⟩
          rw [hD]
          unfold leadStep
          rw [if_pos hc, List.take_of_length_le (by unfold relab; rw [List.length_map, List.length_map, natsL_len]; exact Nat.le_refl _)]
      · have hc : ¬ 0 < c := fun z => e (decide_eq_true z)
        refine ⟨l, _, _, _, _, _, _, _, _, rfl, k2, ?_⟩
        rw [hl2]
        unfold leadStep
        rw [if_neg hc]
    · rintro σ H1 ⟨l, x1, x2, x3, x4, x5, x6, x7, x8, rfl, k1, hl⟩
      rw [hvl, List.take_of_length_le (by rw [List.length_zip]; omega)] at hl
      have hL : Led rooms (ds.zip cs) (leadL rooms (ds.zip cs)) := led_all _ hzr
      have lm := led_mem hL
      have eP : partsL rooms (ds.zip cs) = lotsOf rooms (leadL rooms (ds.zip cs)) := rfl
      rw [eP] at q
      generalize leadL rooms (ds.zip cs) = L at hL hl lm q
      have lL : (natsL L).length ≤ 50 := by rw [natsL_len, hL.len]; exact hro
      -- sorted(set(leaders))
      refine ⟨_, rfl, l, natsL L, rfl, .inl (.inl hl), by omega, fun p1 c1 np1 hc1 => ?_⟩
      refine ⟨p1, _, c1, rfl, upd_same, by omega, fun ns p2 rise mem hlen np2 => ?_⟩
      obtain rfl := kinds_eq lm rise mem
      have k2 := (k1.trans (same_new (o := SetO w p1 (fun j => decide (j ∈ natsL L)) c1) np1)).trans (same_new (o := .lst ((natsL (kindsL rooms L)).map V.int)) np2)
      have hl2 := (same_new (o := .lst ((natsL (kindsL rooms L)).map V.int)) np2) _ _ ((same_new (o := SetO w p1 (fun j => decide (j ∈ natsL L)) c1) np1) _ _ hl)
      have hk2 : (upd (upd H1 p1 (SetO w p1 (fun j => decide (j ∈ natsL L)) c1)) p2 (.lst ((natsL (kindsL rooms L)).map V.int))) p2 = some (.lst ((natsL (kindsL rooms L)).map V.int)) := upd_same
      refine ⟨p2, rfl, ⟨_, .inl (.inl hk2)⟩, fun D nD0 => ?_⟩
      have nD : (upd (upd H1 p1 (SetO w p1 (fun j => decide (j ∈ natsL L)) c1)) p2 (.lst ((natsL (kindsL rooms L)).map V.int))) D = none := nD0
      have nDH := k2.free nD
      have kD : Same (upd (upd H1 p1 (SetO w p1 (fun j => decide (j ∈ natsL L)) c1)) p2 (.lst ((natsL (kindsL rooms L)).map V.int))) (upd (upd (upd H1 p1 (SetO w p1 (fun j => decide (j ∈ natsL L)) c1)) p2 (.lst ((natsL (kindsL rooms L)).map V.int))) D (.lst [])) := same_new nD
      -- the lots
      refine lc_list (K := K) (a := p2) (xs := (natsL (kindsL rooms L)).map V.int) (fun i H3 => Same (upd (upd H1 p1 (SetO w p1 (fun j => decide (j ∈ natsL L)) c1)) p2 (.lst ((natsL (kindsL rooms L)).map V.int))) H3 ∧ ∃ qs : List Addr, H3 D = some (.lst (qs.map V.ref)) ∧ qs.length = i ∧ NewLots H H3 D qs (((kindsL rooms L).take i).map fun m => (List.range rooms).filter fun r => decide (L.getD r 0 = m)))
        ⟨kD, [], upd_same, rfl, .nil⟩ (fun i H3 _ ⟨k3, _⟩ => .inl (.inl (k3 _ _ hk2))) ?_ ?_
      · rintro i v H3 hv ⟨k3, qs, hD, lq, hqs⟩
        obtain ⟨m, rfl, em⟩ := nats_at hv
        have him := lt_of_at em
        have lk : (kindsL rooms L).length ≤ 50 := Nat.le_trans (List.length_filter_le _ _) (by rw [List.length_range]; exact hro)
        refine ⟨rfl, _, rfl, _, rfl, by omega, by omega, fun D2 nD2 => ?_⟩
        have k23 := k2.trans k3
        have nD2H := k23.free nD2
        refine lc_range (lo := 0) (n := rooms) (fun j H4 => Same H3 H4 ∧ H4 D2 = some (.lst ((natsL (((List.range rooms).take j).filter fun r => decide (L.getD r 0 = m))).map V.int))) ⟨same_new nD2, by rw [upd_same, List.take_zero]; rfl⟩ ?_ ?_
        · rintro j H4 hj ⟨k4, hD2⟩
          have g : ((natsL L).map V.int)[j]? = some (.int (L.getD j 0 : Nat)) := by
            rw [List.getElem?_map, natsL_at (r := L.getD j 0) (by rw [List.getD_eq_getElem?_getD, List.getElem?_eq_getElem (by rw [hL.len]; exact hj)]; rfl)]; rfl
          refine ⟨rfl, _, rfl, _, rfl, _, _, _, _, rfl, rfl, .inl (.inl (k4 _ _ (k3 _ _ hl2))), by rw [Int.zero_add]; exact atI_nat g, _, rfl, rfl, _, rfl, ?_⟩
          have dec : (decide (V.int (L.getD j 0 : Nat) = V.int (m : Int))) = decide (L.getD j 0 = m) := by
            by_cases c : L.getD j 0 = m
            · rw [decide_eq_true c, c]; exact decide_eq_true rfl
            · rw [decide_eq_false c]; exact decide_eq_false fun q => c (by have := V.int.inj q; omega)
          rw [dec]
          have ht := nats_take (p := fun r => decide (L.getD r 0 = m)) (List.getElem?_range hj)
          refine ite2 (fun e => ?_) (fun e => ?_)
          · rw [if_pos e] at ht
            refine ⟨_, rfl, _, hD2, ?_, fun b o z => ?_, ?_⟩
            · rw [List.length_map, natsL_len]
              refine small1000 (Nat.le_trans (List.length_filter_le _ _) ?_)
              rw [List.length_take, List.length_range]
              omega
            · rw [upd_ne (ne_of_none z nD2)]; exact k4 b o z
            · rw [upd_same, Int.zero_add]; exact congrArg (fun l => some (HO.lst l)) ht.symm
          · rw [if_neg e] at ht
            refine ⟨k4, ?_⟩
            rw [hD2]; exact congrArg (fun l => some (HO.lst l)) ht.symm
        · rintro H4 ⟨k4, hD2⟩
          rw [List.take_of_length_le (by rw [List.length_range]; omega)] at hD2
          have hD4 := k4 _ _ hD
          have neD : D2 ≠ D := ne_new hD nD2
          refine ⟨_, hD4, ?_, fun b o z => ?_, qs ++ [D2], ?_, by rw [List.length_append, lq]; rfl, ?_⟩
          · rw [List.length_map]; exact small1000 (by rw [natsL_len] at *; omega)
          · rw [upd_ne (ne_of_none z nD)]; exact k4 _ _ (k3 _ _ z)
          · rw [upd_same, List.map_append]; rfl
          · rw [take_snoc em, List.map_append]
            refine newlots_snoc (newlots_imp hqs fun q l ⟨f1, f2, f3⟩ => ⟨f1, f2, ?_⟩) ⟨nD2H, neD, ?_⟩
            · rw [upd_ne f2]; exact k4 _ _ f3
            · rw [upd_ne neD]; exact hD2
      · rintro H3 ⟨k3, qs, hD, lq, hqs⟩
        rw [List.length_map, natsL_len] at hqs
        rw [List.take_of_length_le (Nat.le_refl _)] at hqs
        exact q H3 D qs (k2.trans k3) nDH hD hqs
end
end Bd
namespace Bd
open PySem PySem.Spec PyProof.Rows L2 HT
abbrev sLawTallies : Stmt := topS 8
theorem scLawTallies : FnScope ["bag", "doors", "pair"] ["bag", "doors"] (defScope sLawTallies) := ⟨rfl, rfl, rfl, by decide +kernel, rfl, by decide +kernel, by decide +kernel⟩
theorem atI_four {x y z u : V} {r : Int} (h0 : 0 ≤ r) (h1 : r < 4) : ∃ v, atI [x, y, z, u] r = some v ∧ (v = x ∨ v = y ∨ v = z ∨ v = u) := by
  have : r = 0 ∨ r = 1 ∨ r = 2 ∨ r = 3 := by omega
  rcases this with rfl | rfl | rfl | rfl
  · exact ⟨x, rfl, .inl rfl⟩
  · exact ⟨y, rfl, .inr (.inl rfl)⟩
  · exact ⟨z, rfl, .inr (.inr (.inl rfl))⟩
  · exact ⟨u, rfl, .inr (.inr (.inr rfl))⟩
section
variable {P : Program} {w : World} {K : PySem.W.Frag} {mg : Str → Option Value} {base : Heap}
theorem ok_tallies {f : Addr} {fd : FuncData} (F : Fun K "_law_tallies" "_law_tallies" sLawTallies f fd) (cal_law_draw : Ca P w K mg base 1 "_law_draw" spDraw) : FnOk P w K mg base CX0 2 f fd ["bag", "doors"] (spTallies K) := by
  have sc := scLawTallies
  refine F.ok scLawTallies (fun vs H Q E h => ?_) (fun cdv A outer s H vs Q E hr h => ?_)
  · obtain ⟨a, c, dv, ds, rfl, _⟩ := h
    rfl
  · obtain ⟨a, c, dv, ds, rfl, hB, hd, hl, q⟩ := h
    refine ⟨_, (pss_one (ps_ret (pe_lc (own := [("pair", 2)]) (g := gName 2) (tt := tYes) (by rfl) sc.nd  (pi_list (pv 1)) (blkOk_by (own := [("pair", 2)]) (N := ["bag", "doors", "pair"]) (sc := defScope sLawTallies) (by decide +kernel)) (fun _ _ _ _ _ => (pg_name (i := 2) sc.nd rfl (.inl rfl))) (fun _ _ _ _ _ => pts_nil) (fun _ _ _ _ _ => (pe_ix (ixK (rIxL K) ix_list) (pe_lst (pa_cons pe_int (pa_cons pe_int (pa_cons pe_int (pa_cons (pe_u cal_law_draw hr (by first | decide | exact Nat.le_refl _ | omega) (by rfl) (pa_cons (pv 0) (pa_cons (pe_op op_pow pe_int pe_int) pa_nil))) pa_nil))))) (pe_u cal_law_draw hr (by first | decide | exact Nat.le_refl _ | omega) (by rfl) (pa_cons (pv 0) (pa_cons pe_int pa_nil))) (fun _ _ => rfl)))))), ?_⟩
    obtain ⟨dl, vs, rfl, sd, dd⟩ := dp_list hd
    have lv : vs.length = ds.length := by rw [dps_len dd, List.length_map]
    refine ⟨_, rfl, dl, rfl, ⟨_, hid_same.seq sd⟩, fun D nD => ?_⟩
    have oD := hB.out nD
    have nDH : hid [a, c] H D = none := hid_none nD
    refine lc_list (K := K) (a := dl) (xs := vs) (fun i H1 => ∃ cs : List Int, cs.length = i ∧ (∀ x ∈ cs, 0 ≤ x ∧ x < 10 ^ 20) ∧ H1 D = some (.lst (cs.map V.int)) ∧ Bag H1 a c ∧ Kp [a, c] H H1)
      ⟨[], rfl, (fun x hx => by cases hx), upd_same, hB.new nD, Kp.refl.new nDH⟩ (fun i H1 _ ⟨_, _, _, _, _, k⟩ => hid_same.seq (Same.seq k sd)) ?_ ?_
    · rintro i x H1 hx ⟨cs, lc, bc, hD, B1, k1⟩
      have hi := lt_of_at hx
      refine ⟨rfl, ?_⟩
      refine ⟨_, rfl, _, _, rfl, rfl, ⟨by decide, by decide, by decide⟩, a, c, _, rfl, B1, (by show (0 : Int) < 10 ^ 18; decide), (by show (10 : Int) ^ 18 < 2 ^ 1000; decide +kernel), fun r3 H3 h3a h3b B3 k3 => ?_⟩
      refine ⟨(by show 4 ≤ sizeLine; decide), fun p np => ?_⟩
      refine ⟨_, rfl, a, c, 4, rfl, B3.new np, by decide, by decide, fun r4 H4 h4a h4b B4 k4 => ?_⟩
      obtain ⟨v, e, hv⟩ := atI_four (x := V.int 0) (y := V.int 0) (z := V.int 1) (u := V.int r3) h4a h4b
      have h3c : r3 < 10 ^ 18 := h3b
      obtain ⟨m, rfl, m0, m1⟩ : ∃ m : Int, v = .int m ∧ 0 ≤ m ∧ m < 10 ^ 20 := by
        rcases hv with rfl | rfl | rfl | rfl
        · exact ⟨0, rfl, by decide, by decide⟩
        · exact ⟨0, rfl, by decide, by decide⟩
        · exact ⟨1, rfl, by decide, by decide⟩
        · exact ⟨r3, rfl, h3a, by omega⟩
      have k13 : Kp [a, c] H1 H3 := k3
      have k14 : Kp [a, c] H1 H4 := (k13.new (k13.free np)).trans k4
      refine ⟨_, _, _, _, rfl, rfl, .inl (.inl (k4.at upd_same (B3.out np))), e, cs.map V.int, k14.at hD oD, ?_, cs ++ [m], ?_, ?_, ?_, B4.wr oD, (k1.trans k14).new nDH⟩
      · rw [List.length_map]; exact small1000 (by omega)
      · rw [List.length_append, lc]; rfl
      · intro x hx
        rcases List.mem_append.mp hx with hx | hx
        · exact bc x hx
        · rw [List.mem_singleton.mp hx]; exact ⟨m0, m1⟩
      · rw [upd_same, List.map_append]; rfl
    · rintro H1 ⟨cs, lc, bc, hD, B1, k1⟩
      exact q D H1 cs (by omega) bc B1 k1 (mk_ints (hid_of hD oD))
end
end Bd
namespace Bd
open PySem PySem.Spec PyProof.Rows L2 HT
abbrev sLawLots : Stmt := topS 9
theorem scLawLots : FnScope ["rooms", "found", "room", "lot"] ["rooms"] (defScope sLawLots) := ⟨rfl, rfl, rfl, by decide +kernel, rfl, by decide +kernel, by decide +kernel⟩
theorem lots_more {i : Nat} {ls : List (List Nat)} (h : LotsOk i ls) : LotsOk (i + 1) (ls ++ ls.map fun l => l ++ [i]) := fun l hl => by
  rcases List.mem_append.mp hl with hl | hl
  · obtain ⟨h1, h2, h3⟩ := h l hl
    exact ⟨h1, by omega, fun r hr => by have := h3 r hr; omega⟩
  · obtain ⟨m, hm, rfl⟩ := List.mem_map.mp hl
    obtain ⟨h1, h2, h3⟩ := h m hm
    refine ⟨?_, by rw [List.length_append, List.length_singleton]; omega, fun r hr => ?_⟩
    · rw [List.nodup_append]
      refine ⟨h1, (by simp), fun a ha b hb => ?_⟩
      rw [List.mem_singleton] at hb
      have := h3 a ha
      omega
    · rcases List.mem_append.mp hr with hr | hr
      · have := h3 r hr; omega
      · rw [List.mem_singleton] at hr; omega
theorem small_big {n : Nat} (h : n ≤ 100000) : n ≤ sizeLine := by rw [sizeLine_eq]; omega
section
variable {P : Program} {w : World} {K : PySem.W.Frag} {mg : Str → Option Value} {base : Heap}
theorem ok_lots {f : Addr} {fd : FuncData} (F : Fun K "_law_lots" "_law_lots" sLawLots f fd) (m_range : mg "range" = none) : FnOk P w K mg base CX0 1 f fd ["rooms"] (spLots K) := by
  have sc := scLawLots
  refine F.ok scLawLots (fun vs H Q E h => ?_) (fun cdv A outer s H vs Q E hr h => ?_)
  · obtain ⟨rooms, rfl, _⟩ := h
    rfl
  · obtain ⟨rooms, rfl, h10, q⟩ := h
    refine ⟨_, (pss_cons (ps_set (i := 1) sc.nd rfl (.inl rfl) (pe_lst (pa_cons (pe_lst pa_nil) pa_nil)))
  (pss_cons (ps_for PassesOwn.never rfl (pi_range1 (by rfl) m_range (pa_cons (pv 0) pa_nil)) (pg_name (i := 2) sc.nd rfl (.inr rfl))
    (pss_one (ps_set (i := 1) sc.nd rfl (.inl rfl) (pe_op op_cat (pv 1) (pe_lc (own := [("lot", 3)]) (g := gName 3) (tt := tYes) (by rfl) sc.nd  (pi_list (pv 1)) (blkOk_by (own := [("lot", 3)]) (N := ["rooms", "found", "room", "lot"]) (sc := defScope sLawLots) (by decide +kernel)) (fun _ _ _ _ _ => (pg_name (i := 3) sc.nd rfl (.inl rfl))) (fun _ _ _ _ _ => pts_nil) (fun _ _ _ _ _ => (pe_op op_cat (pv 3) (pe_lst (pa_cons (pv 2) pa_nil)))))))))
  (pss_one (ps_ret (pv 1))))), ?_⟩
    -- found = [[]]
    refine ⟨Nat.zero_le _, fun e ne => ?_⟩
    refine ⟨(by show 1 ≤ sizeLine; decide), fun p np => ?_⟩
    have k0 : Same H (upd (upd H e (.lst [])) p (.lst [.ref e])) := (same_new ne).trans (same_new np)
    have he : (upd (upd H e (.lst [])) p (.lst [.ref e])) e = some (.lst []) := (same_new np) _ _ upd_same
    have hp : (upd (upd H e (.lst [])) p (.lst [.ref e])) p = some (.lst [.ref e]) := upd_same
    have np0 : H p = none := (same_new ne).free np
    generalize upd (upd H e (.lst [])) p (.lst [.ref e]) = H1 at k0 he hp ⊢
    refine ⟨_, rfl, _, rfl, by omega, by omega, for_range (lo := 0) (n := rooms) (fun i σ H2 => ∃ (x y : Option V) (p : Addr) (qs : List Addr) (ls : List (List Nat)), σ = [some (.int (rooms : Int)), some (.ref p), x, y] ∧ Same H H2 ∧ H p = none ∧ H2 p = some (.lst (qs.map V.ref)) ∧ LL H H2 qs ls ∧ ls.length = 2 ^ i ∧ LotsOk i ls)
      ⟨none, none, p, [e], [[]], rfl, k0, np0, hp, .cons ⟨ne, he⟩ .nil, rfl, fun l hl => by rw [List.mem_singleton.mp hl]; exact ⟨List.nodup_nil, Nat.zero_le _, fun r hr => by cases hr⟩⟩ ?_ ?_⟩
    · rintro i σ H2 hi ⟨x, y, p, qs, ls, rfl, k2, np, hp, hL, hlen, hok⟩
      have hq := hL.len
      have h1024 : 2 ^ i ≤ 1024 := Nat.le_trans (Nat.pow_le_pow_right (by decide) (show i ≤ 10 by omega)) (by decide)
      refine ⟨_, rfl, _, rfl, p, rfl, ⟨_, .inl (.inl hp)⟩, fun D nD => ?_⟩
      have nDH := k2.free nD
      refine lc_list (K := K) (a := p) (xs := qs.map V.ref) (fun j H3 => Same H2 H3 ∧ ∃ ps : List Addr, H3 D = some (.lst (ps.map V.ref)) ∧ ps.length = j ∧ NewLots H H3 D ps ((ls.take j).map fun l => l ++ [i]))
        ⟨same_new nD, [], upd_same, rfl, .nil⟩ (fun j H3 _ ⟨k3, _⟩ => .inl (.inl (k3 _ _ hp))) ?_ ?_
      · rintro j v H3 hv ⟨k3, ps, hD, lp, hP⟩
        have hj := lt_of_at hv
        rw [List.length_map] at hj
        have el : ls[j]? = some ls[j] := List.getElem?_eq_getElem (by omega)
        obtain ⟨q0, e0, nq0, hq0⟩ := hL.at el
        obtain rfl : v = .ref q0 := by
          rw [List.getElem?_map, e0] at hv
          exact (Option.some.inj hv).symm
        obtain ⟨o1, o2, o3⟩ := hok _ (List.mem_of_getElem? el)
        refine ⟨rfl, _, rfl, _, rfl, (by show 1 ≤ sizeLine; decide), fun A nA => ?_⟩
        have k4 : Same H3 (upd H3 A (.lst [.int (0 + (i : Int))])) := same_new nA
        have hA : (upd H3 A (.lst [.int (0 + (i : Int))])) A = some (.lst [.int (0 + (i : Int))]) := upd_same
        generalize upd H3 A (.lst [.int (0 + (i : Int))]) = H4 at k4 hA ⊢
        refine ⟨q0, A, _, _, rfl, rfl, k4 _ _ (k3 _ _ hq0), hA, small1000 (by rw [List.length_map, natsL_len]; omega), fun B nB => ?_⟩
        have el2 : (natsL ls[j]).map V.int ++ [V.int (0 + (i : Int))] = (natsL (ls[j] ++ [i])).map V.int := by
          unfold natsL
          rw [Int.zero_add, List.map_append, List.map_append]
          rfl
        rw [el2]
        have k5 := k4.trans (same_new (o := .lst ((natsL (ls[j] ++ [i])).map V.int)) nB)
        have hB : (upd H4 B (.lst ((natsL (ls[j] ++ [i])).map V.int))) B = some (.lst ((natsL (ls[j] ++ [i])).map V.int)) := upd_same
        have nB0 : H B = none := ((k2.trans k3).trans k4).free nB
        have neB : B ≠ D := ne_new (k4 _ _ hD) nB
        generalize upd H4 B (.lst ((natsL (ls[j] ++ [i])).map V.int)) = H5 at k5 hB ⊢
        have k35 : Same H2 H5 := k3.trans k5
        refine ⟨_, k5 _ _ hD, ?_, fun b o z => ?_, ps ++ [B], ?_, by rw [List.length_append, lp]; rfl, ?_⟩
        · rw [List.length_map]; exact Nat.lt_of_lt_of_le (by omega : ps.length < 100000) (by rw [sizeLine_eq]; decide)
        · rw [upd_ne (ne_of_none z nD)]; exact k35 _ _ z
        · rw [upd_same, List.map_append]; rfl
        · rw [take_snoc el, List.map_append]
          have nD0 : H D = none := nDH
          refine newlots_snoc (newlots_imp hP fun q l ⟨f1, f2, f3⟩ => ⟨f1, f2, ?_⟩) ⟨nB0, neB, by rw [upd_ne neB]; exact hB⟩
          rw [upd_ne f2]
          exact k5 _ _ f3
      · rintro H3 ⟨k3, ps, hD, lp, hP⟩
        rw [List.length_map, hq, List.take_of_length_le (Nat.le_refl _)] at hP
        have hP : LL H H3 ps (ls.map fun l => l ++ [i]) := L2.Paired.mapP hP fun _ _ h => ⟨h.1, h.2.2⟩
        rw [List.length_map] at lp
        refine ⟨p, D, _, _, rfl, rfl, k3 _ _ hp, hD, small_big (by rw [List.length_map, List.length_map]; omega), fun R nR => ?_⟩
        have k4 := k3.trans (same_new (o := .lst (qs.map V.ref ++ ps.map V.ref)) nR)
        refine ⟨_, _, R, qs ++ ps, ls ++ ls.map fun l => l ++ [i], rfl, k2.trans k4, (k2.trans k3).free nR, by rw [upd_same, List.map_append], LL.app (hL.mono k4) (hP.mono (same_new nR)), by rw [List.length_append, List.length_map, hlen, Nat.pow_succ]; omega, lots_more hok⟩
    · rintro σ H2 ⟨x, y, p, qs, ls, rfl, k2, np, hp, hL, hlen, hok⟩
      exact ⟨_, rfl, q _ _ _ _ k2 np hp hL hlen hok⟩
end
end Bd
namespace Bd
open PySem PySem.Spec PyProof.Rows L2 HT
abbrev sLawPartsRight : Stmt := topS 10
theorem scLawPartsRight : FnScope ["house", "tallies", "lots", "some", "lot", "whole", "one", "room"] ["house", "tallies", "lots"] (defScope sLawPartsRight) := ⟨rfl, rfl, rfl, by decide +kernel, rfl, by decide +kernel, by decide +kernel⟩
theorem eqv_ints : ∀ a b : List Nat, PyData.eqvAll ((natsL a).map .int) ((natsL b).map .int) = decide (a = b)
  | [], [] => by simp [natsL, PyData.eqvAll]
  | [], y :: b => by simp [natsL, PyData.eqvAll]
  | x :: a, [] => by simp [natsL, PyData.eqvAll]
  | x :: a, y :: b => by
    show (((x : Int) == (y : Int)) && PyData.eqvAll ((natsL a).map .int) ((natsL b).map .int)) = _
    rw [eqv_ints a b]
    by_cases h1 : x = y
    · subst h1
      by_cases h2 : a = b <;> simp [h2]
    · rw [beq_eq_false_iff_ne.mpr (by omega : (x : Int) ≠ (y : Int)), Bool.false_and]
      exact (decide_eq_false (by simp [h1])).symm
theorem eqv_lot (a b : List Nat) : PyData.eqv (lotD a) (lotD b) = decide (a = b) := eqv_ints a b
theorem eqv_lots : ∀ a b : List (List Nat), PyData.eqvAll (a.map lotD) (b.map lotD) = decide (a = b)
  | [], [] => by simp [PyData.eqvAll]
  | [], y :: b => by simp [PyData.eqvAll]
  | x :: a, [] => by simp [PyData.eqvAll]
  | x :: a, y :: b => by
    show (PyData.eqv (lotD x) (lotD y) && PyData.eqvAll (a.map lotD) (b.map lotD)) = _
    rw [eqv_lot, eqv_lots a b]
    by_cases h1 : x = y <;> by_cases h2 : a = b <;> simp [h1, h2]
theorem shp_lot {n : Nat} (l : List Nat) : Shp (n + 1) (lotD l) := shp_list fun d hd => by
  obtain ⟨i, _, rfl⟩ := List.mem_map.mp hd
  exact shp_int i
theorem shp_lots {n : Nat} (ls : List (List Nat)) : Shp (n + 2) (lotsD ls) := shp_list fun d hd => by
  obtain ⟨l, _, rfl⟩ := List.mem_map.mp hd
  exact shp_lot l
def apart (lot one : List Nat) : Bool := !(decide (inLot lot one = []) || decide (inLot lot one = one))
theorem filter_nil_iff {p : List Nat → Bool} {ls : List (List Nat)} : ls.filter p = [] ↔ ∀ l ∈ ls, p l = false := by
  rw [List.filter_eq_nil_iff]
  exact ⟨fun h l hl => Bool.eq_false_iff.mpr (h l hl), fun h l hl => by rw [h l hl]; decide⟩
def spPartsRight (K : PySem.W.Frag) : Sp := fun vs H Q _ => ∃ (hv cv lv : V) (rooms : Nat) (ds : List (Nat × Nat)) (cs : List Int) (ls : List (List Nat)), vs = [hv, cv, lv] ∧ Dp K H hv (houseD rooms ds) ∧ Dp K H cv (.list (cs.map .int)) ∧ Dp K H lv (lotsD ls) ∧
  rooms ≤ 50 ∧ cs.length = ds.length ∧ ds.length ≤ 500 ∧ Doors rooms ds ∧ (∀ c ∈ cs, 0 ≤ c) ∧ ∀ H', Same H H' → Q (.bl true) H'
theorem lotD_at {K : PySem.W.Frag} {H : Hp} {vs : List V} {ls : List (List Nat)} {i : Nat} {v : V} (h : DpAll K H vs (ls.map lotD)) (e : vs[i]? = some v) : ∃ q l, ls[i]? = some l ∧ v = .ref q ∧ SqL K H q ((natsL l).map V.int) := by
  have hl := dps_len h
  rw [List.length_map] at hl
  have hi : i < ls.length := by have := lt_of_at e; omega
  obtain ⟨u, e1, h1⟩ := dps_at h (i := i) (d := lotD ls[i]) (by rw [List.getElem?_map, List.getElem?_eq_getElem hi]; rfl)
  rw [e] at e1
  cases e1
  obtain ⟨q, rfl, h2⟩ := dp_ints h1
  exact ⟨q, ls[i], List.getElem?_eq_getElem hi, rfl, h2⟩
theorem parts_len {n : Nat} {z : List Dc} (h : n ≤ 50) : (partsL n z).length ≤ 50 ∧ ∀ l ∈ partsL n z, l.length ≤ 50 := by
  unfold partsL lotsOf
  constructor
  · rw [List.length_map]
    exact Nat.le_trans (List.length_filter_le _ _) (by rw [List.length_range]; exact h)
  · intro x hx
    obtain ⟨m, _, rfl⟩ := List.mem_map.mp hx
    exact Nat.le_trans (List.length_filter_le _ _) (by rw [List.length_range]; exact h)
theorem newlots_at {H0 H : Hp} {p : Addr} : ∀ {qs : List Addr} {ls : List (List Nat)} {i : Nat} {l : List Nat}, NewLots H0 H p qs ls → ls[i]? = some l → ∃ q, qs[i]? = some q ∧ H0 q = none ∧ q ≠ p ∧ H q = some (.lst ((natsL l).map V.int))
  | _, _, i, l, .nil, e => by simp at e
  | _, b :: _, 0, l, .cons h t, e => by
    have e2 : b = l := by simpa using e
    subst e2
    exact ⟨_, rfl, h⟩
  | _, _, i + 1, l, .cons h t, e => by
    obtain ⟨q, e1, h1⟩ := newlots_at t (i := i) (by simpa using e)
    exact ⟨q, by simpa using e1, h1⟩
section
variable {P : Program} {w : World} {K : PySem.W.Frag} {mg : Str → Option Value} {base : Heap}
theorem ok_parts_right {f : Addr} {fd : FuncData} (F : Fun K "_law_parts_right" "_law_parts_right" sLawPartsRight f fd) (cal_parts : Ca P w K mg base 1 "parts" (spParts K)) (cal_leaving : Ca P w K mg base 1 "leaving" (spLeave K)) :
    FnOk P w K mg base CX0 2 f fd ["house", "tallies", "lots"] (spPartsRight K) := by
  have sc := scLawPartsRight
  refine F.ok scLawPartsRight (fun vs H Q E h => ?_) (fun cdv A outer s H vs Q E hr h => ?_)
  · obtain ⟨hv, cv, lv, rooms, ds, cs, ls, rfl, _⟩ := h
    rfl
  · obtain ⟨hv, cv, lv, rooms, ds, cs, ls, rfl, hh, hc, hl, hro, hlc, hld, hok, hpos, q⟩ := h
    refine ⟨_, (pss_cons (ps_set (i := 3) sc.nd rfl (.inl rfl) (pe_u cal_parts hr (by first | decide | exact Nat.le_refl _ | omega) (by rfl) (pa_cons (pv 0) (pa_cons (pv 1) pa_nil))))
  (pss_cons (ps_for PassesOwn.never rfl (pi_list (pv 2)) (pg_name (i := 4) sc.nd rfl (.inr rfl))
    (pss_cons (ps_set (i := 5) sc.nd rfl (.inl rfl) (pe_cmpR (op_eqD hr.units) (pe_lc (own := [("one", 6)]) (g := gName 6)  (by rfl) sc.nd  (pi_list (pv 3)) (blkOk_by (own := [("one", 6)]) (N := ["house", "tallies", "lots", "some", "lot", "whole", "one", "room"]) (sc := defScope sLawPartsRight) (by decide +kernel)) (fun _ _ _ _ _ => (pg_name (i := 6) sc.nd rfl (.inl rfl))) (fun _ _ _ _ _ => (pts_one (pt_cmpR (opK (rNotInT K) (op_notInT (in_room hr))) (pe_lc (own := [("room", 7)]) (g := gName 7)  (by rfl) sc.nd  (piK (iList K _) (pi_list (pv 6))) (blkOk_by (own := [("room", 7)]) (N := ["house", "tallies", "lots", "some", "lot", "whole", "one", "room"]) (sc := { kind := PySem.ScopeKind.function, names := [ (PySem.Str.ofString ".0", PySem.NameKind.local), (PySem.Str.ofString "one", PySem.NameKind.local), (PySem.Str.ofString "lot", PySem.NameKind.cell)], isGenerator := false, isCoroutine := false, more := [] : PySem.Scope }) (by decide +kernel)) (fun _ _ _ _ _ => (pg_name (i := 7) sc.nd rfl (.inl rfl))) (fun _ _ _ _ _ => (pts_one (pt_cmpR (opK (rIn K false) op_in_seq) (pv 7) (pv 4) rfl))) (fun _ _ _ _ _ => (pv 7))) (pe_tup (pa_cons (pe_lst pa_nil) (pa_cons (pv 6) pa_nil))) rfl))) (fun _ _ _ _ _ => (pv 6))) (pe_lst pa_nil) (nomark _)))
  (pss_one (ps_if (pt_cmpR op_ne (pe_cmpR op_eq (pe_u cal_leaving hr (by first | decide | exact Nat.le_refl _ | omega) (by rfl) (pa_cons (pv 0) (pa_cons (pv 1) (pa_cons (pv 4) pa_nil)))) pe_int (nomark _)) (pv 5) (nomark _))
    (pss_one (ps_ret pe_bl))
    pss_nil))))
  (pss_one (ps_ret pe_bl)))), ?_⟩
    obtain ⟨al, vl, rfl, sl, al1⟩ := dp_list hl
    -- some = parts(house, tallies)
    refine ⟨_, rfl, _, rfl, _, _, rooms, ds, cs, rfl, hh, hc, hro, hlc, hld, hok, fun H1 p qs k1 np hp hN => ?_⟩
    have zr : ∀ x ∈ ds.zip cs, x.1.1 < rooms ∧ x.1.2 < rooms := zip_rooms hok
    have zp : ∀ x ∈ ds.zip cs, 0 ≤ x.2 := fun x hx => hpos x.2 (List.of_mem_zip (a := x.1) (b := x.2) hx).2
    have led := led_all (n := rooms) (ds.zip cs) zr
    obtain ⟨pl1, pl2⟩ := parts_len (n := rooms) (z := ds.zip cs) hro
    have lq : qs.length = (partsL rooms (ds.zip cs)).length := Paired.length hN
    refine ⟨_, rfl, al, rfl, ⟨_, k1.seq sl⟩, for_list (K := K) (a := al) (xs := vl) (fun i σ H2 => ∃ x y, σ = [some hv, some cv, some (.ref al), some (.ref p), x, y, none, none] ∧ Same H1 H2) ⟨_, _, rfl, fun _ _ z => z⟩ (fun i σ H2 _ ⟨_, _, _, k⟩ => (k1.trans k).seq sl) ?_ ?_⟩
    · rintro i v σ H2 hv ⟨_, _, rfl, k2⟩
      obtain ⟨ql, lot, elot, rfl, slot⟩ := lotD_at al1 hv
      -- whole
      refine ⟨_, rfl, p, rfl, ⟨_, .inl (.inl (k2 _ _ hp))⟩, fun D nD => ?_⟩
      refine lc_list (K := K) (a := p) (xs := qs.map V.ref) (fun j H3 => Same H2 H3 ∧ ∃ ps : List Addr, H3 D = some (.lst (ps.map V.ref)) ∧ DpAll K (hid [D] H3) (ps.map V.ref) ((((partsL rooms (ds.zip cs)).take j).filter (apart lot)).map lotD))
        ⟨same_new nD, [], upd_same, .nil⟩ (fun j H3 _ ⟨k3, _⟩ => .inl (.inl (k3 _ _ (k2 _ _ hp)))) ?_ ?_
      · rintro j v H3 hv ⟨k3, ps, hD, dp⟩
        have hj := lt_of_at hv
        rw [List.length_map] at hj
        have eone : (partsL rooms (ds.zip cs))[j]? = some (partsL rooms (ds.zip cs))[j] := List.getElem?_eq_getElem (by omega)
        generalize hone : (partsL rooms (ds.zip cs))[j] = one at eone
        have lone : one.length ≤ 1000 := Nat.le_trans (pl2 one (List.mem_of_getElem? eone)) (by decide)
        obtain ⟨q0, e0, nq0, neq0, hq0⟩ := newlots_at hN eone
        obtain rfl : v = .ref q0 := by
          rw [List.getElem?_map, e0] at hv
          exact (Option.some.inj hv).symm
        have k23 := k2.trans k3
        refine ⟨rfl, _, rfl, q0, rfl, ⟨_, .inl (.inl (k23 _ _ hq0))⟩, fun D2 nD2 => ?_⟩
        refine lc_list (K := K) (a := q0) (xs := (natsL one).map V.int) (fun k Hn => Same H3 Hn ∧ Hn D2 = some (.lst ((natsL ((one.take k).filter fun r => decide (r ∈ lot))).map V.int))) ⟨same_new nD2, upd_same⟩ (fun k Hn _ ⟨kn, _⟩ => .inl (.inl (kn _ _ (k23 _ _ hq0)))) ?_ ?_
        · rintro k v Hn hv ⟨kn, hDn⟩
          obtain ⟨r, rfl, er⟩ := nats_at hv
          refine ⟨rfl, _, rfl, _, rfl, _, _, rfl, .inl ((k1.trans (k23.trans kn)).seq slot), rfl, flat_ints _, _, rfl, ?_⟩
          rw [if_neg (by decide), inV_nats]
          have ht := nats_take (p := fun r => decide (r ∈ lot)) er
          refine ite2 (fun e => ?_) (fun e => ?_)
          · rw [if_pos e] at ht
            refine ⟨_, rfl, _, hDn, ?_, fun b o z => ?_, ?_⟩
            · rw [List.length_map, natsL_len]
              exact small1000 (Nat.le_trans (List.length_filter_le _ _) (Nat.le_trans (List.length_take_le' _ _) lone))
            · rw [upd_ne (ne_of_none z nD2)]; exact kn b o z
            · rw [upd_same]; exact congrArg (fun l => some (HO.lst l)) ht.symm
          · rw [if_neg e] at ht
            refine ⟨kn, ?_⟩
            rw [hDn]; exact congrArg (fun l => some (HO.lst l)) ht.symm
        · rintro Hn ⟨kn, hDn⟩
          rw [List.length_map, natsL_len, List.take_of_length_le (Nat.le_refl _)] at hDn
          refine ⟨Nat.zero_le _, fun N0 nN0 => ⟨_, rfl, (by show 2 ≤ sizeLine; decide), fun T nT => ?_⟩⟩
          have k4 : Same H3 (upd (upd Hn N0 (.lst [])) T (.tup [.ref N0, .ref q0])) := (kn.trans (same_new nN0)).trans (same_new nT)
          have hD2 : (upd (upd Hn N0 (.lst [])) T (.tup [.ref N0, .ref q0])) D2 = some (.lst ((natsL (inLot lot one)).map V.int)) := (same_new nT) _ _ ((same_new nN0) _ _ hDn)
          have hN0 : (upd (upd Hn N0 (.lst [])) T (.tup [.ref N0, .ref q0])) N0 = some (.lst []) := (same_new nT) _ _ upd_same
          have hT : (upd (upd Hn N0 (.lst [])) T (.tup [.ref N0, .ref q0])) T = some (.tup [.ref N0, .ref q0]) := upd_same
          generalize upd (upd Hn N0 (.lst [])) T (.tup [.ref N0, .ref q0]) = H5 at k4 hD2 hN0 hT ⊢
          have hq5 : H5 q0 = some (.lst ((natsL one).map V.int)) := k4 _ _ (k23 _ _ hq0)
          refine ⟨lotD (inLot lot one), [lotD [], lotD one], mk_ints hD2, .tup (.inl (.inl hT)) (.cons (mk_ints (ns := []) hN0) (.cons (mk_ints hq5) .nil)), (shp_lot (n := 0) _).ok (by decide), (shp_tup (n := 1) fun d hd => ?_).ok (by decide), _, rfl, ?_⟩
          · rcases List.mem_cons.mp hd with rfl | hd
            · exact shp_lot _
            · rw [List.mem_singleton.mp hd]; exact shp_lot _
          have eb : (!([lotD [], lotD one].any fun z => PyData.eqv z (lotD (inLot lot one)))) = apart lot one := by
            show (!(PyData.eqv (lotD []) (lotD (inLot lot one)) || (PyData.eqv (lotD one) (lotD (inLot lot one)) || false))) = _
            rw [eqv_lot, eqv_lot, Bool.or_false]
            unfold apart
            rw [decide_eq_decide.mpr (eq_comm (a := ([] : List Nat)) (b := inLot lot one)), decide_eq_decide.mpr (eq_comm (a := one) (b := inLot lot one))]
          rw [eb]
          have hD5 := k4 _ _ hD
          have neq : q0 ≠ D := fun z => by
            have h1 := k2 _ _ hq0
            rw [z, nD] at h1
            cases h1
          refine ite2 (fun e => ?_) (fun e => ?_)
          · refine ⟨_, rfl, _, hD5, ?_, fun b o z => ?_, ps ++ [q0], ?_, ?_⟩
            · have l1 := dps_len dp
              rw [List.length_map, List.length_map] at l1
              rw [List.length_map, l1]
              exact small1000 (Nat.le_trans (List.length_filter_le _ _) (Nat.le_trans (List.length_take_le' _ _) (by omega)))
            · rw [upd_ne (ne_of_none z nD)]; exact k4 _ _ (k3 _ _ z)
            · rw [upd_same, List.map_append]; rfl
            · have kk : Same (hid [D] H3) (hid [D] (upd H5 D (.lst (ps.map V.ref ++ [.ref q0])))) := Kp.trans (Kp.same k4 : Kp [D] H3 H5) (Kp.refl.wr (by simp))
              rw [take_snoc eone, List.filter_append, List.filter_cons_of_pos e, List.map_append, List.map_append]
              exact dps_app (dps_same kk dp) (.cons (mk_ints (hid_of (by rw [upd_ne neq]; exact hq5) (by simp [neq]))) .nil)
          · refine ⟨k3.trans k4, ps, hD5, ?_⟩
            rw [take_snoc eone, List.filter_append, List.filter_cons_of_neg e, List.filter_nil, List.append_nil]
            exact dps_same (Kp.same k4 : Kp [D] H3 H5) dp
      · rintro H3 ⟨k3, ps, hD, dp⟩
        rw [List.length_map, lq, List.take_of_length_le (Nat.le_refl _)] at dp
        generalize hos : (partsL rooms (ds.zip cs)).filter (apart lot) = os at dp
        refine ⟨Nat.zero_le _, fun N0 nN0 => ?_⟩
        have k4 : Same H3 (upd H3 N0 (.lst [])) := same_new nN0
        refine ⟨lotsD os, lotsD [], .lst (.inl (.inl (k4 _ _ hD))) (dps_same k4 (dps_same hid_same dp)), .lst (.inl (.inl upd_same)) .nil, (shp_lots (n := 0) _).ok (by decide), (shp_lots (n := 0) _).ok (by decide), ?_⟩
        have e1 : PyData.eqv (lotsD os) (lotsD []) = decide (os = []) := eqv_lots os []
        rw [e1]
        generalize upd H3 N0 (.lst []) = H4 at k4 ⊢
        have k24 := k2.trans (k3.trans k4)
        have k04 := k1.trans k24
        refine ⟨_, rfl, _, rfl, _, rfl, _, cv, .ref ql, rooms, ds, cs, lot, rfl, dp_same k04 hh, dp_same k04 hc, ?_, hlc, hld, fun H6 k6 => ?_⟩
        · exact .lst (k04.seq slot) (dps_ints _)
        refine ⟨rfl, _, rfl, rfl, _, rfl, ifF ?_ ?_⟩
        · have e2 : decide (V.int (leaveM (ds.zip cs) lot) = V.int 0) = decide (os = []) := by
            refine decide_eq_decide.mpr (Iff.trans ⟨fun z => V.int.inj z, fun z => congrArg V.int z⟩ ?_)
            rw [leave_zero lot zp, ← whole_iff led zr lot, ← hos, filter_nil_iff]
            refine forall_congr' fun one => forall_congr' fun ho => ?_
            unfold apart
            rw [Bool.not_eq_false', Bool.or_eq_true, decide_eq_true_iff, decide_eq_true_iff]
          rw [e2, decide_eq_true rfl]
          decide
        · exact ⟨_, _, rfl, k24.trans k6⟩
    · rintro σ H2 ⟨_, _, rfl, k2⟩
      exact q H2 (k1.trans k2)
end
end Bd
namespace Bd
open PySem PySem.Spec PyProof.Rows L2 HT
abbrev sLawTwoRight : Stmt := topS 11
theorem scLawTwoRight : FnScope ["bag", "house", "tallies", "lots", "one", "other", "both", "shared", "left", "right", "between", "k", "a", "b", "due", "room"] ["bag", "house", "tallies", "lots"] (defScope sLawTwoRight) := ⟨rfl, rfl, rfl, by decide +kernel, rfl, by decide +kernel, by decide +kernel⟩
def LotsAt (H : Hp) (p : Addr) (ls : List (List Nat)) : Prop := ∃ qs : List Addr, H p = some (.lst (qs.map V.ref)) ∧ LL (fun _ => none) H qs ls
theorem LotsAt.mono {H H' : Hp} {p : Addr} {ls : List (List Nat)} (h : LotsAt H p ls) (k : Same H H') : LotsAt H' p ls := by
  obtain ⟨qs, h1, h2⟩ := h
  exact ⟨qs, k _ _ h1, h2.mono k⟩
theorem LotsAt.dp {K : PySem.W.Frag} {H : Hp} {p : Addr} {ls : List (List Nat)} (h : LotsAt H p ls) : Dp K H (.ref p) (lotsD ls) := by
  obtain ⟨qs, h1, h2⟩ := h
  exact .lst (.inl (.inl h1)) h2.dps
theorem btwM_snoc (z : List Dc) (x : Dc) (one other : List Nat) : btwM (z ++ [x]) one other = btwM z one other + x.2 * (if btwB one other x = true then 1 else 0) := by
  unfold btwM
  rw [List.map_append, List.sum_append]
  simp
def spTwoRight (K : PySem.W.Frag) : Sp := fun vs H Q _ => ∃ (a c : Addr) (hv cv : V) (p : Addr) (rooms : Nat) (ds : List (Nat × Nat)) (cs : List Int) (ls : List (List Nat)), vs = [.ref a, hv, cv, .ref p] ∧ Bag H a c ∧ Dp K (hid [a, c] H) hv (houseD rooms ds) ∧ Dp K (hid [a, c] H) cv (.list (cs.map .int)) ∧
  LotsAt (hid [a, c] H) p ls ∧ LotsOk 10 ls ∧ 0 < ls.length ∧ ls.length ≤ 1024 ∧ cs.length = ds.length ∧ ds.length ≤ 500 ∧ ∀ H', Bag H' a c → Kp [a, c] H H' → Q (.bl true) H'
section
variable {P : Program} {w : World} {K : PySem.W.Frag} {mg : Str → Option Value} {base : Heap}
theorem ok_two_right {f : Addr} {fd : FuncData} (F : Fun K "_law_two_right" "_law_two_right" sLawTwoRight f fd) (cal_law_draw : Ca P w K mg base 1 "_law_draw" spDraw) (cal_leaving : Ca P w K mg base 1 "leaving" (spLeave K)) (m_len : mg "len" = none) (m_sorted : mg "sorted" = none) (m_set : mg "set" = none) (m_range : mg "range" = none) (m_int : mg "int" = none) :
    FnOk P w K mg base CX0 2 f fd ["bag", "house", "tallies", "lots"] (spTwoRight K) := by
  have sc := scLawTwoRight
  refine F.ok scLawTwoRight (fun vs H Q E h => ?_) (fun cdv A outer s H vs Q E hr h => ?_)
  · obtain ⟨a, c, hv, cv, p, rooms, ds, cs, ls, rfl, _⟩ := h
    rfl
  · obtain ⟨a, c, hv, cv, p, rooms, ds, cs, ls, rfl, hB, hh, hc, hL, hok, hpos, hlen, hlc, hld, q⟩ := h
    refine ⟨_, (pss_cons (ps_set (i := 4) sc.nd rfl (.inr rfl) (pe_ix ix_list (pv 3) (pe_u cal_law_draw hr (by first | decide | exact Nat.le_refl _ | omega) (by rfl) (pa_cons (pv 0) (pa_cons (pe_callB call_len_seq (by rfl) m_len PySem.boot_len (pa_cons (pv 3) pa_nil)) pa_nil))) (fun _ _ => rfl)))
  (pss_cons (ps_set (i := 5) sc.nd rfl (.inr rfl) (pe_ix ix_list (pv 3) (pe_u cal_law_draw hr (by first | decide | exact Nat.le_refl _ | omega) (by rfl) (pa_cons (pv 0) (pa_cons (pe_callB call_len_seq (by rfl) m_len PySem.boot_len (pa_cons (pv 3) pa_nil)) pa_nil))) (fun _ _ => rfl)))
  (pss_cons (ps_set (i := 6) sc.nd rfl (.inl rfl) (pe_callB (cr_sortedSet rfl) (by rfl) m_sorted (by decide +kernel) (pa_cons (pe_callTy (call_setL rfl) (by rfl) m_set (by decide +kernel) (pa_cons (pe_op op_cat (pv 4) (pv 5)) pa_nil)) pa_nil)))
  (pss_cons (ps_setLc (i := 7) (own := [("room", 15)]) (g := gName 15)  (by rfl) sc.nd rfl rfl (sw_true rfl rfl rfl (by decide +kernel)) (pi_list (pv 4)) (blkOk_by (own := [("room", 15)]) (N := ["bag", "house", "tallies", "lots", "one", "other", "both", "shared", "left", "right", "between", "k", "a", "b", "due", "room"]) (sc := defScope sLawTwoRight) (by decide +kernel)) (fun _ _ _ _ _ => (pg_name (i := 15) sc.nd rfl (.inl rfl))) (fun _ _ _ _ _ => (pts_one (pt_cmpR (opK (rIn K false) op_in_seq) (pv 15) (pv 5) rfl))) (fun _ _ _ _ _ => (pv 15)))
  (pss_cons (ps_setLc (i := 8) (own := [("room", 15)]) (g := gName 15)  (by rfl) sc.nd rfl rfl (sw_true rfl rfl rfl (by decide +kernel)) (pi_list (pv 4)) (blkOk_by (own := [("room", 15)]) (N := ["bag", "house", "tallies", "lots", "one", "other", "both", "shared", "left", "right", "between", "k", "a", "b", "due", "room"]) (sc := defScope sLawTwoRight) (by decide +kernel)) (fun _ _ _ _ _ => (pg_name (i := 15) sc.nd rfl (.inl rfl))) (fun _ _ _ _ _ => (pts_one (pt_cmpR (opK (rIn K true) op_notIn_seq) (pv 15) (pv 5) rfl))) (fun _ _ _ _ _ => (pv 15)))
  (pss_cons (ps_setLc (i := 9) (own := [("room", 15)]) (g := gName 15)  (by rfl) sc.nd rfl rfl (sw_true rfl rfl rfl (by decide +kernel)) (pi_list (pv 5)) (blkOk_by (own := [("room", 15)]) (N := ["bag", "house", "tallies", "lots", "one", "other", "both", "shared", "left", "right", "between", "k", "a", "b", "due", "room"]) (sc := defScope sLawTwoRight) (by decide +kernel)) (fun _ _ _ _ _ => (pg_name (i := 15) sc.nd rfl (.inl rfl))) (fun _ _ _ _ _ => (pts_one (pt_cmpR (opK (rIn K true) op_notIn_seq) (pv 15) (pv 4) rfl))) (fun _ _ _ _ _ => (pv 15)))
  (pss_cons (ps_set (i := 10) sc.nd rfl (.inl rfl) pe_int)
  (pss_cons (ps_for PassesOwn.never rfl (pi_range1 (by rfl) m_range (pa_cons (pe_callB call_len_seq (by rfl) m_len PySem.boot_len (pa_cons (pv 2) pa_nil)) pa_nil)) (pg_name (i := 11) sc.nd rfl (.inl rfl))
    (pss_cons (ps_asg (pe_ix ix_list (pe_ix ix_tup (pv 1) pe_int (fun _ _ => rfl)) (pv 11) (fun _ _ => rfl)) (pg_tup (by rfl) (pgs_cons (pg_name (i := 12) sc.nd rfl (.inl rfl)) (pgs_cons (pg_name (i := 13) sc.nd rfl (.inl rfl)) pgs_nil))))
  (pss_one (ps_set (i := 10) sc.nd rfl (.inl rfl) (pe_op op_add (pv 10) (pe_op op_mul (pe_ix ix_list (pv 2) (pv 11) (fun _ _ => rfl)) (pe_callTy call_int1 (by rfl) m_int (by decide +kernel) (pa_cons (pe_or (pe_and (pe_cmpR op_in_seq (pv 12) (pv 8) rfl) (pe_one (pe_cmpR op_in_seq (pv 13) (pv 9) rfl))) (pe_one (pe_and (pe_cmpR op_in_seq (pv 12) (pv 9) rfl) (pe_one (pe_cmpR op_in_seq (pv 13) (pv 8) rfl))))) pa_nil))))))))
  (pss_cons (ps_set (i := 14) sc.nd rfl (.inl rfl) (pe_op op_add (pe_op op_add (pe_u cal_leaving hr (by first | decide | exact Nat.le_refl _ | omega) (by rfl) (pa_cons (pv 1) (pa_cons (pv 2) (pa_cons (pv 6) pa_nil)))) (pe_u cal_leaving hr (by first | decide | exact Nat.le_refl _ | omega) (by rfl) (pa_cons (pv 1) (pa_cons (pv 2) (pa_cons (pv 7) pa_nil))))) (pe_op op_mul pe_int (pv 10))))
  (pss_one (ps_ret (pe_cmpR op_eq (pe_op op_add (pe_u cal_leaving hr (by first | decide | exact Nat.le_refl _ | omega) (by rfl) (pa_cons (pv 1) (pa_cons (pv 2) (pa_cons (pv 4) pa_nil)))) (pe_u cal_leaving hr (by first | decide | exact Nat.le_refl _ | omega) (by rfl) (pa_cons (pv 1) (pa_cons (pv 2) (pa_cons (pv 5) pa_nil))))) (pv 14) (nomark _))))))))))))), ?_⟩
    obtain ⟨sh, ad, vs, rfl, t1, l1, a1⟩ := house_of hh
    obtain ⟨ac, rfl, lc⟩ := dp_ints hc
    have hvl : vs.length = ds.length := by rw [dps_len a1, List.length_map]
    obtain ⟨qs, hp, hqs⟩ := hL
    have lq := hqs.len
    have pick : ∀ {H1 : Hp} {r : Int}, Kp [a, c] H H1 → 0 ≤ r → r < (ls.length : Int) → ∃ (q0 : Addr) (l : List Nat), l ∈ ls ∧ atI (qs.map V.ref) r = some (.ref q0) ∧ (hid [a, c] H1) q0 = some (.lst ((natsL l).map V.int)) := by
      intro H1 r k h0 h1
      obtain ⟨j, rfl⟩ : ∃ j : Nat, r = (j : Int) := ⟨r.toNat, by omega⟩
      have el : ls[j]? = some ls[j] := List.getElem?_eq_getElem (by omega)
      obtain ⟨q0, e0, _, h2⟩ := hqs.at el
      exact ⟨q0, ls[j], List.mem_of_getElem? el, atI_nat (by rw [List.getElem?_map, e0]; rfl), k _ _ h2⟩
    -- one, other
    refine ⟨_, rfl, _, rfl, _, rfl, _, _, rfl, .inl (.inl (.inl (of_hid hp).1)), a, c, _, rfl, hB, by rw [List.length_map]; omega, by rw [List.length_map]; omega, fun r1 H1 h1a h1b B1 k1 => ?_⟩
    rw [List.length_map, lq] at h1b
    obtain ⟨q1, one, m1, at1, hq1⟩ := pick k1 h1a h1b
    refine ⟨_, _, _, _, rfl, rfl, .inl (.inl (of_hid (k1 _ _ hp)).1), at1, ?_⟩
    refine ⟨_, rfl, _, rfl, _, rfl, _, _, rfl, .inl (.inl (.inl (of_hid (k1 _ _ hp)).1)), a, c, _, rfl, B1, by rw [List.length_map]; omega, by rw [List.length_map]; omega, fun r2 H2 h2a h2b B2 k2 => ?_⟩
    rw [List.length_map, lq] at h2b
    have k12 := k1.trans k2
    obtain ⟨q2, other, m2, at2, hq2⟩ := pick k12 h2a h2b
    refine ⟨_, _, _, _, rfl, rfl, .inl (.inl (of_hid (k12 _ _ hp)).1), at2, ?_⟩
    have hq1 := (of_hid (k2 _ _ hq1)).1
    have hq2 := (of_hid hq2).1
    obtain ⟨o1, o2, o3⟩ := hok one m1
    obtain ⟨o4, o5, o6⟩ := hok other m2
    -- both
    refine ⟨_, rfl, _, rfl, q1, q2, _, _, rfl, rfl, hq1, hq2, small_big (by rw [List.length_map, natsL_len, List.length_map, natsL_len]; omega), fun R nR => ?_⟩
    have ecat : (natsL one).map V.int ++ (natsL other).map V.int = (natsL (one ++ other)).map V.int := by
      unfold natsL
      rw [List.map_append, List.map_append]
    rw [ecat]
    have k3 : Same H2 (upd H2 R (.lst ((natsL (one ++ other)).map V.int))) := same_new nR
    have hR : (upd H2 R (.lst ((natsL (one ++ other)).map V.int))) R = some (.lst ((natsL (one ++ other)).map V.int)) := upd_same
    generalize upd H2 R (.lst ((natsL (one ++ other)).map V.int)) = H3 at k3 hR ⊢
    have lcat : (natsL (one ++ other)).length ≤ 20 := by rw [natsL_len, List.length_append]; omega
    refine ⟨R, natsL (one ++ other), rfl, .inl (.inl hR), by omega, fun p1 c1 np1 hc1 => ?_⟩
    refine ⟨p1, _, c1, rfl, upd_same, by omega, fun ns p2 rise mem hlen2 np2 => ?_⟩
    obtain rfl := kinds_eq (n := 10) (L := one ++ other) (fun m hm => by
      rcases List.mem_append.mp hm with hm | hm
      · exact o3 m hm
      · exact o6 m hm) rise mem
    have k4 := (k3.trans (same_new (o := SetO w p1 (fun j => decide (j ∈ natsL (one ++ other))) c1) np1)).trans (same_new (o := .lst ((natsL (kindsL 10 (one ++ other))).map V.int)) np2)
    have hp2 : (upd (upd H3 p1 (SetO w p1 (fun j => decide (j ∈ natsL (one ++ other))) c1)) p2 (.lst ((natsL (kindsL 10 (one ++ other))).map V.int))) p2 = some (.lst ((natsL (kindsL 10 (one ++ other))).map V.int)) := upd_same
    show gName 6 (V.ref p2) _ (upd (upd H3 p1 (SetO w p1 (fun j => decide (j ∈ natsL (one ++ other))) c1)) p2 (.lst ((natsL (kindsL 10 (one ++ other))).map V.int))) _
    generalize upd (upd H3 p1 (SetO w p1 (fun j => decide (j ∈ natsL (one ++ other))) c1)) p2 (.lst ((natsL (kindsL 10 (one ++ other))).map V.int)) = H4 at k4 hp2 ⊢
    have hboth : ∀ r, r ∈ kindsL 10 (one ++ other) ↔ r ∈ one ∨ r ∈ other := fun r => by
      unfold kindsL
      rw [List.mem_filter, List.mem_range, decide_eq_true_iff, List.mem_append]
      exact ⟨fun z => z.2, fun z => ⟨z.elim (o3 r) (o6 r), z⟩⟩
    have lone : one.length ≤ 1000 := by omega
    have lother : other.length ≤ 1000 := by omega
    -- shared, left, right
    refine ⟨_, rfl, q1, rfl, ⟨_, .inl (.inl (k4 _ _ hq1))⟩, fun D1 nD1 => ?_⟩
    refine lc_list (K := K) (a := q1) (xs := (natsL one).map V.int) (fun k H5 => Same H4 H5 ∧ H5 D1 = some (.lst ((natsL ((one.take k).filter fun r => decide (r ∈ other))).map V.int))) ⟨same_new nD1, upd_same⟩ (fun k H5 _ ⟨k5, _⟩ => .inl (.inl (k5 _ _ (k4 _ _ hq1)))) ?_ ?_
    · rintro k v H5 hv ⟨k5, hs1⟩
      obtain ⟨r, rfl, er⟩ := nats_at hv
      refine ⟨rfl, _, rfl, _, rfl, _, _, rfl, .inl (.inl (.inl (k5 _ _ (k4 _ _ hq2)))), rfl, flat_ints _, _, rfl, ?_⟩
      rw [if_neg (by decide), inV_nats]
      have ht := nats_take (p := fun r => decide (r ∈ other)) er
      refine ite2 (fun e => ?_) (fun e => ?_)
      · rw [if_pos e] at ht
        refine ⟨_, rfl, _, hs1, ?_, fun b o z => ?_, ?_⟩
        · rw [List.length_map, natsL_len]
          exact small1000 (Nat.le_trans (List.length_filter_le _ _) (Nat.le_trans (List.length_take_le' _ _) lone))
        · rw [upd_ne (ne_of_none z nD1)]; exact k5 b o z
        · rw [upd_same]; exact congrArg (fun l => some (HO.lst l)) ht.symm
      · rw [if_neg e] at ht
        refine ⟨k5, ?_⟩
        rw [hs1]; exact congrArg (fun l => some (HO.lst l)) ht.symm
    · rintro H5 ⟨k5, hs1⟩
      rw [List.length_map, natsL_len, List.take_of_length_le (Nat.le_refl _)] at hs1
      have k45 := k4.trans k5
      refine ⟨_, rfl, q1, rfl, ⟨_, .inl (.inl (k45 _ _ hq1))⟩, fun D2 nD2 => ?_⟩
      refine lc_list (K := K) (a := q1) (xs := (natsL one).map V.int) (fun k H6 => Same H5 H6 ∧ H6 D2 = some (.lst ((natsL ((one.take k).filter fun r => !decide (r ∈ other))).map V.int))) ⟨same_new nD2, upd_same⟩ (fun k H6 _ ⟨k6, _⟩ => .inl (.inl (k6 _ _ (k45 _ _ hq1)))) ?_ ?_
      · rintro k v H6 hv ⟨k6, hs2⟩
        obtain ⟨r, rfl, er⟩ := nats_at hv
        refine ⟨rfl, _, rfl, _, rfl, _, _, rfl, .inl (.inl (.inl (k6 _ _ (k45 _ _ hq2)))), rfl, flat_ints _, _, rfl, ?_⟩
        rw [if_pos (by decide), inV_nats]
        have ht := nats_take (p := fun r => !decide (r ∈ other)) er
        refine ite2 (fun e => ?_) (fun e => ?_)
        · rw [if_pos e] at ht
          refine ⟨_, rfl, _, hs2, ?_, fun b o z => ?_, ?_⟩
          · rw [List.length_map, natsL_len]
            exact small1000 (Nat.le_trans (List.length_filter_le _ _) (Nat.le_trans (List.length_take_le' _ _) lone))
          · rw [upd_ne (ne_of_none z nD2)]; exact k6 b o z
          · rw [upd_same]; exact congrArg (fun l => some (HO.lst l)) ht.symm
        · rw [if_neg e] at ht
          refine ⟨k6, ?_⟩
          rw [hs2]; exact congrArg (fun l => some (HO.lst l)) ht.symm
      · rintro H6 ⟨k6, hs2⟩
        rw [List.length_map, natsL_len, List.take_of_length_le (Nat.le_refl _)] at hs2
        have k46 := k45.trans k6
        refine ⟨_, rfl, q2, rfl, ⟨_, .inl (.inl (k46 _ _ hq2))⟩, fun D3 nD3 => ?_⟩
        refine lc_list (K := K) (a := q2) (xs := (natsL other).map V.int) (fun k H7 => Same H6 H7 ∧ H7 D3 = some (.lst ((natsL ((other.take k).filter fun r => !decide (r ∈ one))).map V.int))) ⟨same_new nD3, upd_same⟩ (fun k H7 _ ⟨k7, _⟩ => .inl (.inl (k7 _ _ (k46 _ _ hq2)))) ?_ ?_
        · rintro k v H7 hv ⟨k7, hs3⟩
          obtain ⟨r, rfl, er⟩ := nats_at hv
          refine ⟨rfl, _, rfl, _, rfl, _, _, rfl, .inl (.inl (.inl (k7 _ _ (k46 _ _ hq1)))), rfl, flat_ints _, _, rfl, ?_⟩
          rw [if_pos (by decide), inV_nats]
          have ht := nats_take (p := fun r => !decide (r ∈ one)) er
          refine ite2 (fun e => ?_) (fun e => ?_)
          · rw [if_pos e] at ht
            refine ⟨_, rfl, _, hs3, ?_, fun b o z => ?_, ?_⟩
            · rw [List.length_map, natsL_len]
              exact small1000 (Nat.le_trans (List.length_filter_le _ _) (Nat.le_trans (List.length_take_le' _ _) lother))
            · rw [upd_ne (ne_of_none z nD3)]; exact k7 b o z
            · rw [upd_same]; exact congrArg (fun l => some (HO.lst l)) ht.symm
          · rw [if_neg e] at ht
            refine ⟨k7, ?_⟩
            rw [hs3]; exact congrArg (fun l => some (HO.lst l)) ht.symm
        · rintro H7 ⟨k7, hs3⟩
          rw [List.length_map, natsL_len, List.take_of_length_le (Nat.le_refl _)] at hs3
          have k47 := k46.trans k7
          have hs2 := k7 _ _ hs2
          have hs1 := k7 _ _ (k6 _ _ hs1)
          have hp2 := k7 _ _ (k6 _ _ (k5 _ _ hp2))
          have k07 : Kp [a, c] H H7 := k12.trans (Kp.same k47)
          have hid7 : Same (hid [a, c] H) H7 := fun b o z => hid_same _ _ (k07 b o z)
          have t7 := same_tup hid7 t1
          have l7 := Same.seq hid7 l1
          have c7 := Same.seq hid7 lc
          -- between
          refine ⟨_, rfl, _, _, rfl, .inl c7, _, rfl, by rw [List.length_map]; omega, by rw [List.length_map]; omega, for_range (lo := 0) (n := (cs.map V.int).length) (fun i σ H8 => ∃ x y z, σ = [some (.ref a), some (.ref sh), some (.ref ac), some (.ref p), some (.ref q1), some (.ref q2), some (.ref p2), some (.ref D1), some (.ref D2), some (.ref D3), some (.int (btwM ((ds.zip cs).take i) one other)), x, y, z, none, none] ∧ H8 = H7) ⟨_, _, _, rfl, rfl⟩ ?_ ?_⟩
          · rintro i σ H8 hi ⟨x, y, z, rfl, rfl⟩
            rw [List.length_map] at hi
            have ed : ds[i]? = some ds[i] := List.getElem?_eq_getElem (by omega)
            have ec : cs[i]? = some cs[i] := List.getElem?_eq_getElem (by omega)
            generalize ds[i]'(by omega) = d at ed
            generalize cs[i] = cc at ec
            obtain ⟨v, ev, dv⟩ := dps_at a1 (i := i) (d := pairD d) (by rw [List.getElem?_map, ed]; rfl)
            obtain ⟨pp, rfl, tp⟩ := pair_of dv
            refine ⟨_, rfl, _, _, _, _, rfl, rfl, t7, rfl, _, rfl, _, _, _, _, rfl, rfl, l7, by rw [Int.zero_add]; exact atI_nat ev, pp, _, rfl, same_tup hid7 tp, rfl, _, _, rfl, _, _, rfl, rfl, ?_⟩
            refine ⟨_, rfl, _, rfl, _, rfl, _, _, _, _, rfl, rfl, c7, by rw [Int.zero_add]; exact atI_nat (by rw [List.getElem?_map, ec]; rfl), ?_⟩
            refine ⟨_, rfl, _, rfl, _, _, rfl, .inl (.inl (.inl hs2)), rfl, flat_ints _, ?_⟩
            have hz := zip_at ed ec
            have hbw : btwB one other (d, cc) = ((decide (d.1 ∈ one.filter fun r => !decide (r ∈ other)) && decide (d.2 ∈ other.filter fun r => !decide (r ∈ one))) || (decide (d.1 ∈ other.filter fun r => !decide (r ∈ one)) && decide (d.2 ∈ one.filter fun r => !decide (r ∈ other)))) := by
              unfold btwB
              simp [List.mem_filter]
            generalize hLe : (one.filter fun r => !decide (r ∈ other)) = LE at hbw hs2 ⊢
            generalize hRi : (other.filter fun r => !decide (r ∈ one)) = RI at hbw hs3 ⊢
            have fin : ∀ v : Bool, v = btwB one other (d, cc) → btwM ((ds.zip cs).take i) one other + cc * (if v = true then 1 else 0) = btwM ((ds.zip cs).take (i + 1)) one other := fun v hv => by
              rw [take_snoc hz, btwM_snoc, hv]
            have second : ∀ v : Bool, (if decide (d.1 ∈ RI) = true then v = decide (d.2 ∈ LE) else v = decide (d.1 ∈ RI)) → ¬ (decide (d.1 ∈ LE) = true ∧ decide (d.2 ∈ RI) = true) → v = btwB one other (d, cc) := fun v h n => by
              rw [hbw]
              by_cases c1 : decide (d.1 ∈ LE) = true <;> by_cases c2 : decide (d.2 ∈ RI) = true <;> by_cases c3 : decide (d.1 ∈ RI) = true <;> simp_all
            have cm : ∀ v : Bool, CMul cc (if v = true then 1 else 0) := fun v => .inr (by cases v <;> decide)
            have iv : ∀ (r : Nat) (M : List Nat), (if false = true then !inV (V.int r) ((natsL M).map V.int) else inV (V.int r) ((natsL M).map V.int)) = decide (r ∈ M) := fun r M => by rw [if_neg (by decide), inV_nats]
            refine ⟨_, rfl, ite2 (fun e1 => ?_) (fun e1 => ?_)⟩
            · rw [iv] at e1
              refine ⟨_, rfl, _, rfl, _, _, rfl, .inl (.inl (.inl hs3)), rfl, flat_ints _, _, rfl, ite2 (fun e2 => ?_) (fun e2 => ?_)⟩
              · rw [iv] at e2
                refine .inr ⟨_, rfl, _, _, rfl, rfl, cm _, _, _, rfl, rfl, some (.int (0 + (i : Int))), some (.int (d.1 : Int)), some (.int (d.2 : Int)), ?_, rfl⟩
                rw [← fin true (by rw [hbw, e1, e2]; rfl)]
                rfl
              · rw [iv] at e2
                refine ⟨_, rfl, _, rfl, _, _, rfl, .inl (.inl (.inl hs3)), rfl, flat_ints _, _, rfl, ite2 (fun e3 => ?_) (fun e3 => ?_)⟩
                · rw [iv] at e3
                  refine ⟨_, rfl, _, rfl, _, _, rfl, .inl (.inl (.inl hs2)), rfl, flat_ints _, ?_⟩
                  rw [iv]
                  refine .inr ⟨_, rfl, _, _, rfl, rfl, cm _, _, _, rfl, rfl, some (.int (0 + (i : Int))), some (.int (d.1 : Int)), some (.int (d.2 : Int)), ?_, rfl⟩
                  rw [← fin (decide (d.2 ∈ LE)) (second _ (by rw [if_pos e3]) fun z => e2 z.2)]
                  rfl
                · rw [iv] at e3
                  refine .inr ⟨_, rfl, _, _, rfl, rfl, cm _, _, _, rfl, rfl, some (.int (0 + (i : Int))), some (.int (d.1 : Int)), some (.int (d.2 : Int)), ?_, rfl⟩
                  rw [← fin false (second _ (by rw [if_neg e3]; exact (Bool.eq_false_iff.mpr e3).symm) fun z => e2 z.2)]
                  rfl
            · rw [iv] at e1
              refine ⟨_, rfl, ifF (by decide) ?_⟩
              refine ⟨_, rfl, _, rfl, _, _, rfl, .inl (.inl (.inl hs3)), rfl, flat_ints _, _, rfl, ite2 (fun e3 => ?_) (fun e3 => ?_)⟩
              · rw [iv] at e3
                refine ⟨_, rfl, _, rfl, _, _, rfl, .inl (.inl (.inl hs2)), rfl, flat_ints _, ?_⟩
                rw [iv]
                refine .inr ⟨_, rfl, _, _, rfl, rfl, cm _, _, _, rfl, rfl, some (.int (0 + (i : Int))), some (.int (d.1 : Int)), some (.int (d.2 : Int)), ?_, rfl⟩
                rw [← fin (decide (d.2 ∈ LE)) (second _ (by rw [if_pos e3]) fun z => e1 z.1)]
                rfl
              · rw [iv] at e3
                refine .inr ⟨_, rfl, _, _, rfl, rfl, cm _, _, _, rfl, rfl, some (.int (0 + (i : Int))), some (.int (d.1 : Int)), some (.int (d.2 : Int)), ?_, rfl⟩
                rw [← fin false (second _ (by rw [if_neg e3]; exact (Bool.eq_false_iff.mpr e3).symm) fun z => e1 z.1)]
                rfl
          · rintro σ H8 ⟨x, y, z, rfl, rfl⟩
            rw [List.length_map, List.take_of_length_le (by rw [List.length_zip]; omega)]
            have dh8 := dp_same k07 hh
            have B8 := B2.keep k47
            have dh := dp_same hid7 hh
            have dc : Dp K H8 (.ref ac) (.list (cs.map .int)) := .lst c7 (dps_ints _)
            have d1 : Dp K H8 (.ref q1) (.list ((natsL one).map .int)) := mk_ints (k47 _ _ hq1)
            have d2 : Dp K H8 (.ref q2) (.list ((natsL other).map .int)) := mk_ints (k47 _ _ hq2)
            refine ⟨_, rfl, _, rfl, _, rfl, _, _, _, rooms, ds, cs, kindsL 10 (one ++ other), rfl, dh, dc, mk_ints hp2, hlc, hld, fun H9 k9 => ?_⟩
            refine ⟨_, rfl, _, rfl, _, rfl, _, _, _, rooms, ds, cs, _, rfl, dp_same k9 dh, dp_same k9 dc, dp_same k9 (mk_ints hs1), hlc, hld, fun H10 k10 => ?_⟩
            refine ⟨_, _, rfl, rfl, _, rfl, _, _, rfl, rfl, .inl ⟨by decide, by decide⟩, _, _, rfl, rfl, ?_⟩
            have k810 := k9.trans k10
            refine ⟨_, rfl, _, rfl, _, rfl, _, _, _, rooms, ds, cs, one, rfl, dp_same k810 dh, dp_same k810 dc, dp_same k810 d1, hlc, hld, fun H11 k11 => ?_⟩
            refine ⟨_, rfl, _, rfl, _, rfl, _, _, _, rooms, ds, cs, other, rfl, dp_same (k810.trans k11) dh, dp_same (k810.trans k11) dc, dp_same (k810.trans k11) d2, hlc, hld, fun H12 k12' => ?_⟩
            refine ⟨_, _, rfl, rfl, _, rfl, rfl, ?_⟩
            have e := leave_two (one := one) (other := other) hboth (shared := one.filter fun r => decide (r ∈ other)) (fun r => by rw [List.mem_filter, decide_eq_true_iff]) (ds.zip cs)
            rw [decide_eq_true (congrArg V.int e)]
            have kf := (k810.trans k11).trans k12'
            exact q H12 (B8.keep kf) (k07.trans (Kp.same kf))
end
end Bd
namespace Bd
open PySem PySem.Spec PyProof.Rows L2 HT
abbrev sLawMoreRight : Stmt := topS 12
theorem scLawMoreRight : FnScope ["house", "tallies", "others", "more", "wide", "one", "passed", "few", "k", "lot", "room"] ["house", "tallies", "others"] (defScope sLawMoreRight) := ⟨rfl, rfl, rfl, by decide +kernel, rfl, by decide +kernel, by decide +kernel⟩
def posB (more : List Int) (k : Nat) : Bool := decide (0 < more.getD k 0)
def pasL (more : List Int) (n : Nat) : List Nat := (List.range n).filter (posB more)
theorem getD_of {α : Type} {l : List α} {i : Nat} {x d : α} (h : l[i]? = some x) : l.getD i d = x := by
  rw [List.getD_eq_getElem?_getD, h]
  rfl
theorem pas_zip {ds : List (Nat × Nat)} {more : List Int} (h : more.length = ds.length) : ∀ i, i ≤ ds.length →
    ((List.range i).filter (posB more)).map (fun k => (ds.getD k (0, 0), more.getD k 0)) = ((ds.zip more).take i).filter fun x => decide (0 < x.2)
  | 0, _ => rfl
  | i + 1, hi => by
    have ih := pas_zip h i (by omega)
    have e1 : ds[i]? = some ds[i] := List.getElem?_eq_getElem (by omega)
    have e2 : more[i]? = some more[i] := List.getElem?_eq_getElem (by omega)
    have g1 : ds.getD i (0, 0) = ds[i] := getD_of e1
    have g2 : more.getD i 0 = more[i] := getD_of e2
    rw [List.range_succ, List.filter_append, List.map_append, ih, take_snoc (zip_at e1 e2), List.filter_append]
    congr 1
    by_cases c : posB more i = true
    · have c2 : decide (0 < more[i]) = true := by rw [← g2]; exact c
      rw [List.filter_cons_of_pos c, List.filter_cons_of_pos (by exact c2)]
      show [(ds.getD i (0, 0), more.getD i 0)] = [(ds[i], more[i])]
      rw [g1, g2]
    · have c2 : ¬ decide (0 < more[i]) = true := by rw [← g2]; exact c
      rw [List.filter_cons_of_neg c, List.filter_cons_of_neg (by exact c2)]
      rfl
theorem pas_parts {rooms : Nat} {ds : List (Nat × Nat)} {more : List Int} (h : more.length = ds.length) :
    partsL rooms (((pasL more ds.length).map fun k => ds.getD k (0, 0)).zip ((pasL more ds.length).map fun k => more.getD k 0)) = partsL rooms (ds.zip more) := by
  rw [List.zip_map']
  unfold pasL
  rw [pas_zip h ds.length (Nat.le_refl _), List.take_of_length_le (by rw [List.length_zip]; omega)]
  unfold partsL
  rw [lead_filter]
def within (one lot : List Nat) : Bool := decide ((one.filter fun r => !decide (r ∈ lot)) = [])
def addL (cs os : List Int) : List Int := List.zipWith (· + ·) cs os
theorem add_len {cs os : List Int} (h : os.length = cs.length) : (addL cs os).length = cs.length := by
  unfold addL
  rw [List.length_zipWith]
  omega
theorem add_at {cs os : List Int} {i : Nat} {x y : Int} (h1 : cs[i]? = some x) (h2 : os[i]? = some y) : (addL cs os)[i]? = some (x + y) := by
  unfold addL
  rw [List.getElem?_zipWith, h1, h2]
def spMoreRight (K : PySem.W.Frag) : Sp := fun vs H Q _ => ∃ (hv cv ov : V) (rooms : Nat) (ds : List (Nat × Nat)) (cs os : List Int), vs = [hv, cv, ov] ∧ Dp K H hv (houseD rooms ds) ∧ Dp K H cv (.list (cs.map .int)) ∧ Dp K H ov (.list (os.map .int)) ∧
  rooms ≤ 50 ∧ cs.length = ds.length ∧ os.length = ds.length ∧ ds.length ≤ 500 ∧ Doors rooms ds ∧ (∀ c ∈ cs, 0 ≤ c) ∧ (∀ c ∈ os, 0 ≤ c) ∧ ∀ H', Same H H' → Q (.bl true) H'
theorem more_in {rooms : Nat} {ds : List (Nat × Nat)} {cs more : List Int} (hok : Doors rooms ds) (h : ∀ (i : Nat) (c : Int), i < ds.length → cs[i]? = some c → 0 < c → ∃ m, more[i]? = some m ∧ 0 < m) {one : List Nat} (ho : one ∈ partsL rooms (ds.zip cs)) :
    ∃ lot ∈ partsL rooms (ds.zip more), (one.filter fun r => !decide (r ∈ lot)) = [] := by
  have l1 := led_all (n := rooms) (ds.zip cs) (zip_rooms hok)
  have l2 := led_all (n := rooms) (ds.zip more) (zip_rooms hok)
  obtain ⟨lot, hl, hs⟩ := parts_in l1 l2 (fun x hx hp => by
    obtain ⟨i, hi⟩ := List.getElem?_of_mem hx
    rw [List.getElem?_zip_eq_some] at hi
    obtain ⟨i1, i2⟩ := hi
    obtain ⟨m, hm, mp⟩ := h i x.2 (lt_of_at i1) i2 hp
    exact l2.eq (x.1, m) (List.mem_of_getElem? (zip_at i1 hm)) mp) ho
  refine ⟨lot, hl, List.filter_eq_nil_iff.mpr fun r hr => ?_⟩
  rw [decide_eq_true (hs r hr)]
  decide
section
variable {P : Program} {w : World} {K : PySem.W.Frag} {mg : Str → Option Value} {base : Heap}
theorem ok_more_right {f : Addr} {fd : FuncData} (F : Fun K "_law_more_right" "_law_more_right" sLawMoreRight f fd) (cal_parts : Ca P w K mg base 1 "parts" (spParts K)) (m_len : mg "len" = none) (m_range : mg "range" = none) :
    FnOk P w K mg base CX0 2 f fd ["house", "tallies", "others"] (spMoreRight K) := by
  have sc := scLawMoreRight
  refine F.ok scLawMoreRight (fun vs H Q E h => ?_) (fun cdv A outer s H vs Q E hr h => ?_)
  · obtain ⟨hv, cv, ov, rooms, ds, cs, os, rfl, _⟩ := h
    rfl
  · obtain ⟨hv, cv, ov, rooms, ds, cs, os, rfl, hh, hc, ho, hro, hlc, hlo, hld, hok, hp1, hp2, q⟩ := h
    refine ⟨_, (pss_cons (ps_set (i := 3) sc.nd rfl (.inr rfl) (pe_lc (own := [("k", 8)]) (g := gName 8) (tt := tYes) (by rfl) sc.nd  (pi_range1 (by rfl) m_range (pa_cons (pe_callB call_len_seq (by rfl) m_len PySem.boot_len (pa_cons (pv 1) pa_nil)) pa_nil)) (blkOk_by (own := [("k", 8)]) (N := ["house", "tallies", "others", "more", "wide", "one", "passed", "few", "k", "lot", "room"]) (sc := defScope sLawMoreRight) (by decide +kernel)) (fun _ _ _ _ _ => (pg_name (i := 8) sc.nd rfl (.inl rfl))) (fun _ _ _ _ _ => pts_nil) (fun _ _ _ _ _ => (pe_op op_add (pe_ix (ixK (rIxL K) ix_list) (pv 1) (pv 8) (fun _ _ => rfl)) (pe_ix (ixK (rIxL K) ix_list) (pv 2) (pv 8) (fun _ _ => rfl))))))
  (pss_cons (ps_set (i := 4) sc.nd rfl (.inl rfl) (pe_u cal_parts hr (by first | decide | exact Nat.le_refl _ | omega) (by rfl) (pa_cons (pv 0) (pa_cons (pv 3) pa_nil))))
  (pss_cons (ps_for PassesOwn.never rfl (pi_list (pe_op op_cat (pe_u cal_parts hr (by first | decide | exact Nat.le_refl _ | omega) (by rfl) (pa_cons (pv 0) (pa_cons (pv 1) pa_nil))) (pe_u cal_parts hr (by first | decide | exact Nat.le_refl _ | omega) (by rfl) (pa_cons (pv 0) (pa_cons (pv 2) pa_nil))))) (pg_name (i := 5) sc.nd rfl (.inr rfl))
    (pss_one (ps_if (pt_cmpR (op_eqD hr.units) (pe_lc (own := [("lot", 9)]) (g := gName 9)  (by rfl) sc.nd  (pi_list (pv 4)) (blkOk_by (own := [("lot", 9)]) (N := ["house", "tallies", "others", "more", "wide", "one", "passed", "few", "k", "lot", "room"]) (sc := defScope sLawMoreRight) (by decide +kernel)) (fun _ _ _ _ _ => (pg_name (i := 9) sc.nd rfl (.inr rfl))) (fun _ _ _ _ _ => (pts_one (pt_cmpR (opK (rEqD K) (op_eqD hr.units)) (pe_lc (own := [("room", 10)]) (g := gName 10)  (by rfl) sc.nd  (piK (iList K _) (pi_list (pv 5))) (blkOk_by (own := [("room", 10)]) (N := ["house", "tallies", "others", "more", "wide", "one", "passed", "few", "k", "lot", "room"]) (sc := { kind := PySem.ScopeKind.function, names := [ (PySem.Str.ofString ".0", PySem.NameKind.local), (PySem.Str.ofString "lot", PySem.NameKind.cell), (PySem.Str.ofString "one", PySem.NameKind.cell)], isGenerator := false, isCoroutine := false, more := [] : PySem.Scope }) (by decide +kernel)) (fun _ _ _ _ _ => (pg_name (i := 10) sc.nd rfl (.inl rfl))) (fun _ _ _ _ _ => (pts_one (pt_cmpR (opK (rIn K true) op_notIn_seq) (pv 10) (pv 9) rfl))) (fun _ _ _ _ _ => (pv 10))) (pe_lst pa_nil) (nomark _)))) (fun _ _ _ _ _ => (pv 9))) (pe_lst pa_nil) (nomark _))
    (pss_one (ps_ret pe_bl))
    pss_nil)))
  (pss_cons (ps_setLc (i := 6) (own := [("k", 8)]) (g := gName 8)  (by rfl) sc.nd rfl rfl (sw_true rfl rfl rfl (by decide +kernel)) (pi_range1 (by rfl) m_range (pa_cons (pe_callB call_len_seq (by rfl) m_len PySem.boot_len (pa_cons (pv 3) pa_nil)) pa_nil)) (blkOk_by (own := [("k", 8)]) (N := ["house", "tallies", "others", "more", "wide", "one", "passed", "few", "k", "lot", "room"]) (sc := defScope sLawMoreRight) (by decide +kernel)) (fun _ _ _ _ _ => (pg_name (i := 8) sc.nd rfl (.inl rfl))) (fun _ _ _ _ _ => (pts_one (pt_cmpR op_gt (pe_ix (ixK (rIxL K) ix_list) (pv 3) (pv 8) (fun _ _ => rfl)) pe_int (nomark _)))) (fun _ _ _ _ _ => (pv 8)))
  (pss_cons (ps_set (i := 7) sc.nd rfl (.inl rfl) (pe_tup (pa_cons (pe_ix ix_tup (pv 0) pe_int (fun _ _ => rfl)) (pa_cons (pe_lc (own := [("k", 8)]) (g := gName 8) (tt := tYes) (by rfl) sc.nd  (pi_list (pv 6)) (blkOk_by (own := [("k", 8)]) (N := ["house", "tallies", "others", "more", "wide", "one", "passed", "few", "k", "lot", "room"]) (sc := defScope sLawMoreRight) (by decide +kernel)) (fun _ _ _ _ _ => (pg_name (i := 8) sc.nd rfl (.inl rfl))) (fun _ _ _ _ _ => pts_nil) (fun _ _ _ _ _ => (pe_ix (ixK (rIxL K) ix_list) (pe_ix (ixK (rIxT K) ix_tup) (pv 0) pe_int (fun _ _ => rfl)) (pv 8) (fun _ _ => rfl)))) pa_nil))))
  (pss_one (ps_ret (pe_cmpR (op_eqD hr.units) (pe_u cal_parts hr (by first | decide | exact Nat.le_refl _ | omega) (by rfl) (pa_cons (pv 7) (pa_cons (pe_lc (own := [("k", 8)]) (g := gName 8) (tt := tYes) (by rfl) sc.nd  (pi_list (pv 6)) (blkOk_by (own := [("k", 8)]) (N := ["house", "tallies", "others", "more", "wide", "one", "passed", "few", "k", "lot", "room"]) (sc := defScope sLawMoreRight) (by decide +kernel)) (fun _ _ _ _ _ => (pg_name (i := 8) sc.nd rfl (.inl rfl))) (fun _ _ _ _ _ => pts_nil) (fun _ _ _ _ _ => (pe_ix (ixK (rIxL K) ix_list) (pv 3) (pv 8) (fun _ _ => rfl)))) pa_nil))) (pv 4) (nomark _))))))))), ?_⟩
    obtain ⟨sh, ad, vs, rfl, t1, l1, a1⟩ := house_of hh
    obtain ⟨ac, rfl, lc⟩ := dp_ints hc
    obtain ⟨ao, rfl, lo⟩ := dp_ints ho
    have hvl : vs.length = ds.length := by rw [dps_len a1, List.length_map]
    have hma : (addL cs os).length = ds.length := by rw [add_len (by omega), hlc]
    -- more
    refine ⟨_, rfl, _, _, rfl, .inl lc, _, rfl, by rw [List.length_map]; omega, by rw [List.length_map]; omega, fun M nM => ?_⟩
    refine lc_range (lo := 0) (n := (cs.map V.int).length) (fun k H1 => Same H H1 ∧ H1 M = some (.lst (((addL cs os).take k).map V.int))) ⟨same_new nM, upd_same⟩ ?_ ?_
    · rintro k H1 hk ⟨k1, hM⟩
      rw [List.length_map] at hk
      have e1 : cs[k]? = some cs[k] := List.getElem?_eq_getElem hk
      have e2 : os[k]? = some os[k] := List.getElem?_eq_getElem (by omega)
      refine ⟨rfl, _, rfl, _, rfl, _, _, _, _, rfl, rfl, k1.seq lc, by rw [Int.zero_add]; exact atI_nat (by rw [List.getElem?_map, e1]; rfl), _, rfl, _, rfl, _, _, _, _, rfl, rfl, k1.seq lo, by rw [Int.zero_add]; exact atI_nat (by rw [List.getElem?_map, e2]; rfl), _, _, rfl, rfl, ?_⟩
      refine ⟨_, hM, ?_, fun b o z => ?_, ?_⟩
      · rw [List.length_map]; exact small1000 (Nat.le_trans (List.length_take_le' _ _) (by omega))
      · rw [upd_ne (ne_of_none z nM)]; exact k1 b o z
      · rw [upd_same, take_snoc (add_at e1 e2), List.map_append]; rfl
    rintro H1 ⟨k1, hM⟩
    rw [List.length_map, List.take_of_length_le (by omega)] at hM
    have mat : ∀ i, i < ds.length → ∃ x y, cs[i]? = some x ∧ os[i]? = some y ∧ (addL cs os)[i]? = some (x + y) := fun i hi => by
      have e1 : cs[i]? = some cs[i] := List.getElem?_eq_getElem (by omega)
      have e2 : os[i]? = some os[i] := List.getElem?_eq_getElem (by omega)
      exact ⟨_, _, e1, e2, add_at e1 e2⟩
    generalize addL cs os = more at hM hma mat
    -- wide
    refine ⟨_, rfl, _, rfl, _, _, rooms, ds, more, rfl, dp_same k1 hh, mk_ints hM, hro, hma, hld, hok, fun H2 W qs k2 nW hW hN => ?_⟩
    have k02 := k1.trans k2
    obtain ⟨pl1, pl2⟩ := parts_len (n := rooms) (z := ds.zip more) hro
    have lqw : qs.length = (partsL rooms (ds.zip more)).length := Paired.length hN
    -- parts + parts
    refine ⟨_, rfl, _, rfl, _, _, rooms, ds, cs, rfl, dp_same k02 hh, dp_same k02 hc, hro, hlc, hld, hok, fun H3 p1 qs1 k3 np1 hq1 hN1 => ?_⟩
    have k03 := k02.trans k3
    refine ⟨_, rfl, _, rfl, _, _, rooms, ds, os, rfl, dp_same k03 hh, dp_same k03 ho, hro, hlo, hld, hok, fun H4 p2 qs2 k4 np2 hq2 hN2 => ?_⟩
    have k04 := k03.trans k4
    obtain ⟨pc1, pc2⟩ := parts_len (n := rooms) (z := ds.zip cs) hro
    obtain ⟨po1, po2⟩ := parts_len (n := rooms) (z := ds.zip os) hro
    have lq1 : qs1.length = (partsL rooms (ds.zip cs)).length := Paired.length hN1
    have lq2 : qs2.length = (partsL rooms (ds.zip os)).length := Paired.length hN2
    refine ⟨p1, p2, _, _, rfl, rfl, k4 _ _ hq1, hq2, small_big (by rw [List.length_map, List.length_map]; omega), fun R nR => ?_⟩
    have hR : (upd H4 R (.lst (qs1.map V.ref ++ qs2.map V.ref))) R = some (.lst (qs1.map V.ref ++ qs2.map V.ref)) := upd_same
    have k5 : Same H4 (upd H4 R (.lst (qs1.map V.ref ++ qs2.map V.ref))) := same_new nR
    generalize upd H4 R (.lst (qs1.map V.ref ++ qs2.map V.ref)) = H5 at hR k5 ⊢
    have k05 := k04.trans k5
    have k25 : Same H2 H5 := k3.trans (k4.trans k5)
    have all : ∀ (i : Nat) (v : V), (qs1.map V.ref ++ qs2.map V.ref)[i]? = some v → ∃ (q0 : Addr) (one : List Nat), v = .ref q0 ∧ H5 q0 = some (.lst ((natsL one).map V.int)) ∧ one.length ≤ 50 ∧ ∃ lot ∈ partsL rooms (ds.zip more), (one.filter fun r => !decide (r ∈ lot)) = [] := by
      intro i v hv
      rcases Nat.lt_or_ge i qs1.length with hi | hi
      · rw [List.getElem?_append_left (by rw [List.length_map]; exact hi)] at hv
        have e0 : (partsL rooms (ds.zip cs))[i]? = some (partsL rooms (ds.zip cs))[i] := List.getElem?_eq_getElem (by omega)
        obtain ⟨q0, e1, _, _, h0⟩ := newlots_at hN1 e0
        rw [List.getElem?_map, e1] at hv
        have m0 := List.mem_of_getElem? e0
        refine ⟨q0, _, (Option.some.inj hv).symm, k5 _ _ (k4 _ _ h0), pc2 _ m0, more_in hok (fun i c hi e hp => ?_) m0⟩
        obtain ⟨x, y, x1, y1, m1⟩ := mat i hi
        rw [e] at x1
        cases x1
        have := hp2 y (List.mem_of_getElem? y1)
        exact ⟨_, m1, by omega⟩
      · rw [List.getElem?_append_right (by rw [List.length_map]; exact hi), List.length_map] at hv
        have hi2 := lt_of_at hv
        rw [List.length_map] at hi2
        have e0 : (partsL rooms (ds.zip os))[i - qs1.length]? = some (partsL rooms (ds.zip os))[i - qs1.length] := List.getElem?_eq_getElem (by omega)
        obtain ⟨q0, e1, _, _, h0⟩ := newlots_at hN2 e0
        rw [List.getElem?_map, e1] at hv
        have m0 := List.mem_of_getElem? e0
        refine ⟨q0, _, (Option.some.inj hv).symm, k5 _ _ h0, po2 _ m0, more_in hok (fun i c hi e hp => ?_) m0⟩
        obtain ⟨x, y, x1, y1, m1⟩ := mat i hi
        rw [e] at y1
        cases y1
        have := hp1 x (List.mem_of_getElem? x1)
        exact ⟨_, m1, by omega⟩
    refine ⟨R, rfl, ⟨_, .inl (.inl hR)⟩, for_list (K := K) (a := R) (xs := qs1.map V.ref ++ qs2.map V.ref) (fun i σ H6 => ∃ x, σ = [some (.ref sh), some (.ref ac), some (.ref ao), some (.ref M), some (.ref W), x, none, none, none, none, none] ∧ Same H5 H6) ⟨_, rfl, fun _ _ z => z⟩ (fun i σ H6 _ ⟨_, _, k⟩ => .inl (.inl (k _ _ hR))) ?_ ?_⟩
    · rintro i v σ H6 hv ⟨_, rfl, k6⟩
      obtain ⟨q0, one, rfl, hq0, lone50, hex⟩ := all i v hv
      have lone : one.length ≤ 1000 := by omega
      have k26 := k25.trans k6
      refine ⟨_, rfl, W, rfl, ⟨_, .inl (.inl (k26 _ _ hW))⟩, fun D nD => ?_⟩
      refine lc_list (K := K) (a := W) (xs := qs.map V.ref) (fun j H7 => Same H6 H7 ∧ ∃ ps : List Addr, H7 D = some (.lst (ps.map V.ref)) ∧ DpAll K (hid [D] H7) (ps.map V.ref) ((((partsL rooms (ds.zip more)).take j).filter (within one)).map lotD))
        ⟨same_new nD, [], upd_same, .nil⟩ (fun j H7 _ ⟨k7, _⟩ => .inl (.inl (k7 _ _ (k26 _ _ hW)))) ?_ ?_
      · rintro j v H7 hv ⟨k7, ps, hD, dp⟩
        have hj := lt_of_at hv
        rw [List.length_map] at hj
        have elot : (partsL rooms (ds.zip more))[j]? = some (partsL rooms (ds.zip more))[j] := List.getElem?_eq_getElem (by omega)
        generalize (partsL rooms (ds.zip more))[j]'(by omega) = lot at elot
        obtain ⟨ql, e0, nql, neql, hql⟩ := newlots_at hN elot
        obtain rfl : v = .ref ql := by
          rw [List.getElem?_map, e0] at hv
          exact (Option.some.inj hv).symm
        have k27 := k26.trans k7
        refine ⟨rfl, _, rfl, q0, rfl, ⟨_, .inl (.inl (k7 _ _ (k6 _ _ hq0)))⟩, fun D2 nD2 => ?_⟩
        refine lc_list (K := K) (a := q0) (xs := (natsL one).map V.int) (fun k Hn => Same H7 Hn ∧ Hn D2 = some (.lst ((natsL ((one.take k).filter fun r => !decide (r ∈ lot))).map V.int))) ⟨same_new nD2, upd_same⟩ (fun k Hn _ ⟨kn, _⟩ => .inl (.inl (kn _ _ (k7 _ _ (k6 _ _ hq0))))) ?_ ?_
        · rintro k v Hn hv ⟨kn, hDn⟩
          obtain ⟨r, rfl, er⟩ := nats_at hv
          refine ⟨rfl, _, rfl, _, rfl, _, _, rfl, .inl (.inl (.inl (kn _ _ (k27 _ _ hql)))), rfl, flat_ints _, _, rfl, ?_⟩
          rw [if_pos (by decide), inV_nats]
          have ht := nats_take (p := fun r => !decide (r ∈ lot)) er
          refine ite2 (fun e => ?_) (fun e => ?_)
          · rw [if_pos e] at ht
            refine ⟨_, rfl, _, hDn, ?_, fun b o z => ?_, ?_⟩
            · rw [List.length_map, natsL_len]
              exact small1000 (Nat.le_trans (List.length_filter_le _ _) (Nat.le_trans (List.length_take_le' _ _) lone))
            · rw [upd_ne (ne_of_none z nD2)]; exact kn b o z
            · rw [upd_same]; exact congrArg (fun l => some (HO.lst l)) ht.symm
          · rw [if_neg e] at ht
            refine ⟨kn, ?_⟩
            rw [hDn]; exact congrArg (fun l => some (HO.lst l)) ht.symm
        · rintro Hn ⟨kn, hDn⟩
          rw [List.length_map, natsL_len, List.take_of_length_le (Nat.le_refl _)] at hDn
          refine ⟨Nat.zero_le _, fun N0 nN0 => ?_⟩
          have k8 : Same H7 (upd Hn N0 (.lst [])) := kn.trans (same_new nN0)
          have hD2 : (upd Hn N0 (.lst [])) D2 = some (.lst ((natsL (one.filter fun r => !decide (r ∈ lot))).map V.int)) := (same_new nN0) _ _ hDn
          have hN0 : (upd Hn N0 (.lst [])) N0 = some (.lst []) := upd_same
          generalize upd Hn N0 (.lst []) = H8 at k8 hD2 hN0 ⊢
          refine ⟨lotD (one.filter fun r => !decide (r ∈ lot)), lotD [], mk_ints hD2, mk_ints (ns := []) hN0, (shp_lot (n := 0) _).ok (by decide), (shp_lot (n := 0) _).ok (by decide), _, rfl, ?_⟩
          rw [eqv_lot]
          have hD8 := k8 _ _ hD
          have hql8 : H8 ql = some (.lst ((natsL lot).map V.int)) := k8 _ _ (k27 _ _ hql)
          have neq : ql ≠ D := fun z => by
            have h1 := k26 _ _ hql
            rw [z, nD] at h1
            cases h1
          refine ite2 (fun e => ?_) (fun e => ?_)
          · refine ⟨_, rfl, _, hD8, ?_, fun b o z => ?_, ps ++ [ql], ?_, ?_⟩
            · have l1 := dps_len dp
              rw [List.length_map, List.length_map] at l1
              rw [List.length_map, l1]
              exact small1000 (Nat.le_trans (List.length_filter_le _ _) (Nat.le_trans (List.length_take_le' _ _) (by omega)))
            · rw [upd_ne (ne_of_none z nD)]; exact k8 _ _ (k7 _ _ z)
            · rw [upd_same, List.map_append]; rfl
            · have kk : Same (hid [D] H7) (hid [D] (upd H8 D (.lst (ps.map V.ref ++ [.ref ql])))) := Kp.trans (Kp.same k8 : Kp [D] H7 H8) (Kp.refl.wr (by simp))
              rw [take_snoc elot, List.filter_append, List.filter_cons_of_pos (show within one lot = true from e), List.map_append, List.map_append]
              exact dps_app (dps_same kk dp) (.cons (mk_ints (hid_of (by rw [upd_ne neq]; exact hql8) (by simp [neq]))) .nil)
          · refine ⟨k7.trans k8, ps, hD8, ?_⟩
            rw [take_snoc elot, List.filter_append, List.filter_cons_of_neg (show ¬ within one lot = true from e), List.filter_nil, List.append_nil]
            exact dps_same (Kp.same k8 : Kp [D] H7 H8) dp
      · rintro H7 ⟨k7, ps, hD, dp⟩
        rw [List.length_map, lqw, List.take_of_length_le (Nat.le_refl _)] at dp
        refine ⟨Nat.zero_le _, fun N0 nN0 => ?_⟩
        have k8 : Same H7 (upd H7 N0 (.lst [])) := same_new nN0
        refine ⟨lotsD _, lotsD [], .lst (.inl (.inl (k8 _ _ hD))) (dps_same k8 (dps_same hid_same dp)), .lst (.inl (.inl upd_same)) .nil, (shp_lots (n := 0) _).ok (by decide), (shp_lots (n := 0) _).ok (by decide), _, rfl, ifF ?_ ?_⟩
        · have e1 : ∀ os : List (List Nat), PyData.eqv (lotsD os) (lotsD []) = decide (os = []) := fun os => eqv_lots os []
          rw [e1, decide_eq_true_iff]
          obtain ⟨lot, hl, he⟩ := hex
          intro z
          have : lot ∈ (partsL rooms (ds.zip more)).filter (within one) := List.mem_filter.mpr ⟨hl, decide_eq_true he⟩
          rw [z] at this
          cases this
        · exact ⟨_, rfl, k6.trans (k7.trans k8)⟩
    · rintro σ H6 ⟨_, rfl, k6⟩
      have k06 := k05.trans k6
      have hM6 := k6 _ _ (k25 _ _ (k2 _ _ hM))
      have k26 := k25.trans k6
      -- passed
      have lm6 : SqL K H6 M (more.map V.int) := .inl (.inl hM6)
      refine ⟨_, rfl, _, _, rfl, .inl lm6, _, rfl, by rw [List.length_map]; omega, by rw [List.length_map]; omega, fun D nD => ?_⟩
      refine lc_range (lo := 0) (n := (more.map V.int).length) (fun k H7 => Same H6 H7 ∧ H7 D = some (.lst ((natsL (((List.range (more.map V.int).length).take k).filter (posB more))).map V.int))) ⟨same_new nD, by rw [upd_same, List.take_zero]; rfl⟩ ?_ ?_
      · rintro k H7 hk ⟨k7, hD⟩
        have er : (List.range (more.map V.int).length)[k]? = some k := List.getElem?_range hk
        rw [List.length_map] at hk
        have em : more[k]? = some more[k] := List.getElem?_eq_getElem hk
        refine ⟨rfl, _, rfl, _, rfl, _, _, _, _, rfl, rfl, k7.seq lm6, by rw [Int.zero_add]; exact atI_nat (by rw [List.getElem?_map, em]; rfl), _, _, rfl, rfl, _, rfl, ?_⟩
        have dec : decide ((0 : Int) < more[k]) = posB more k := by
          unfold posB
          rw [getD_of em]
        rw [dec]
        have ht := nats_take (p := posB more) er
        refine ite2 (fun e => ?_) (fun e => ?_)
        · rw [if_pos e] at ht
          refine ⟨_, rfl, _, hD, ?_, fun b o z => ?_, ?_⟩
          · rw [List.length_map, natsL_len]
            exact small1000 (Nat.le_trans (List.length_filter_le _ _) (Nat.le_trans (List.length_take_le' _ _) (by rw [List.length_range, List.length_map]; omega)))
          · rw [upd_ne (ne_of_none z nD)]; exact k7 b o z
          · rw [upd_same, Int.zero_add]; exact congrArg (fun l => some (HO.lst l)) ht.symm
        · rw [if_neg e] at ht
          refine ⟨k7, ?_⟩
          rw [hD]; exact congrArg (fun l => some (HO.lst l)) ht.symm
      rintro H7 ⟨k7, hD⟩
      rw [List.take_of_length_le (by rw [List.length_range]; exact Nat.le_refl _), List.length_map, hma] at hD
      have epas : (List.range ds.length).filter (posB more) = pasL more ds.length := rfl
      rw [epas] at hD
      have inpas : ∀ k ∈ pasL more ds.length, k < ds.length := fun k hk => List.mem_range.mp (List.mem_filter.mp hk).1
      have lpas : (pasL more ds.length).length ≤ 500 := Nat.le_trans (List.length_filter_le _ _) (by rw [List.length_range]; exact hld)
      have epz := pas_parts (rooms := rooms) hma
      generalize pasL more ds.length = pas at hD inpas lpas epz
      have k07 := k06.trans k7
      -- few
      refine ⟨_, rfl, _, _, _, _, rfl, rfl, same_tup k07 t1, rfl, ?_⟩
      refine ⟨_, rfl, D, rfl, ⟨_, .inl (.inl hD)⟩, fun B nB => ?_⟩
      refine lc_list (K := K) (a := D) (xs := (natsL pas).map V.int) (fun j H8 => Same H7 H8 ∧ ∃ us : List V, H8 B = some (.lst us) ∧ us.length = j ∧ DpAll K H us (((pas.take j).map fun k => ds.getD k (0, 0)).map pairD)) ⟨same_new nB, [], upd_same, rfl, .nil⟩ (fun j H8 _ ⟨k8, _⟩ => .inl (.inl (k8 _ _ hD))) ?_ ?_
      · rintro j v H8 hv ⟨k8, us, hB, lu, du⟩
        obtain ⟨k, rfl, ek⟩ := nats_at hv
        have hk := inpas k (List.mem_of_getElem? ek)
        have ed : ds[k]? = some ds[k] := List.getElem?_eq_getElem hk
        obtain ⟨v, ev, dv⟩ := dps_at a1 (i := k) (d := pairD ds[k]) (by rw [List.getElem?_map, ed]; rfl)
        have k08 := k07.trans k8
        refine ⟨rfl, _, rfl, _, _, _, _, rfl, rfl, same_tup k08 t1, rfl, _, rfl, _, _, _, _, rfl, rfl, k08.seq l1, atI_nat ev, ?_⟩
        have hj := lt_of_at ek
        refine ⟨_, hB, ?_, fun b o z => ?_, us ++ [v], upd_same, by rw [List.length_append, lu]; rfl, ?_⟩
        · rw [lu]; exact small1000 (by omega)
        · rw [upd_ne (ne_of_none z nB)]; exact k8 b o z
        · rw [take_snoc ek, List.map_append, List.map_append]
          refine dps_app du (.cons ?_ .nil)
          show Dp K H v (pairD (ds.getD k (0, 0)))
          rw [getD_of ed]; exact dv
      rintro H8 ⟨k8, us, hB, lu, du⟩
      rw [List.length_map, natsL_len, List.take_of_length_le (Nat.le_refl _)] at du
      refine ⟨(by show 2 ≤ sizeLine; decide), fun T nT => ?_⟩
      have k9 := k8.trans (same_new (o := .tup [.int (rooms : Int), .ref B]) nT)
      have k09 := k07.trans k9
      have hT : (upd H8 T (.tup [.int (rooms : Int), .ref B])) T = some (.tup [.int (rooms : Int), .ref B]) := upd_same
      have hB9 := (same_new (o := .tup [.int (rooms : Int), .ref B]) nT) _ _ hB
      have hD9 := k9 _ _ hD
      have hM9 := k9 _ _ (k7 _ _ hM6)
      have hW9 := k9 _ _ (k7 _ _ (k26 _ _ hW))
      have kW : Same H2 (upd H8 T (.tup [.int (rooms : Int), .ref B])) := k26.trans (k7.trans k9)
      generalize upd H8 T (.tup [.int (rooms : Int), .ref B]) = H9 at k9 k09 hT hB9 hD9 hM9 hW9 kW ⊢
      have dfew : Dp K H9 (.ref T) (houseD rooms (pas.map fun k => ds.getD k (0, 0))) := mk_pair hT (.int _) (.lst (.inl (.inl hB9)) (dps_same k09 du))
      -- its counts
      refine ⟨_, rfl, _, rfl, D, rfl, ⟨_, .inl (.inl hD9)⟩, fun C nC => ?_⟩
      refine lc_list (K := K) (a := D) (xs := (natsL pas).map V.int) (fun j H10 => Same H9 H10 ∧ H10 C = some (.lst (((pas.take j).map fun k => more.getD k 0).map V.int))) ⟨same_new nC, upd_same⟩ (fun j H10 _ ⟨k10, _⟩ => .inl (.inl (k10 _ _ hD9))) ?_ ?_
      · rintro j v H10 hv ⟨k10, hC⟩
        obtain ⟨k, rfl, ek⟩ := nats_at hv
        have hk := inpas k (List.mem_of_getElem? ek)
        have em : more[k]? = some more[k] := List.getElem?_eq_getElem (by omega)
        have hj := lt_of_at ek
        refine ⟨rfl, _, rfl, _, rfl, _, _, _, _, rfl, rfl, .inl (.inl (k10 _ _ hM9)), atI_nat (by rw [List.getElem?_map, em]; rfl), ?_⟩
        refine ⟨_, hC, ?_, fun b o z => ?_, ?_⟩
        · rw [List.length_map, List.length_map]; exact small1000 (Nat.le_trans (List.length_take_le' _ _) (by omega))
        · rw [upd_ne (ne_of_none z nC)]; exact k10 b o z
        · rw [upd_same, take_snoc ek, List.map_append, List.map_append]
          have g := getD_of (d := (0 : Int)) em
          exact congrArg (fun z => some (HO.lst (List.map V.int (List.map (fun k => more.getD k 0) (List.take j pas)) ++ [V.int z]))) g.symm
      rintro H10 ⟨k10, hC⟩
      rw [List.length_map, natsL_len, List.take_of_length_le (Nat.le_refl _)] at hC
      refine ⟨_, _, rooms, pas.map fun k => ds.getD k (0, 0), pas.map fun k => more.getD k 0, rfl, dp_same k10 dfew, mk_ints hC, hro, by rw [List.length_map, List.length_map], by rw [List.length_map]; exact lpas, fun d hd => ?_, fun H11 Z zs k11 nZ hZ hNZ => ?_⟩
      · obtain ⟨k, hk, rfl⟩ := List.mem_map.mp hd
        have ed : ds[k]? = some (ds[k]'(inpas k hk)) := List.getElem?_eq_getElem (inpas k hk)
        rw [getD_of ed]
        exact hok _ (List.mem_of_getElem? ed)
      rw [epz] at hNZ
      have kW11 := kW.trans (k10.trans k11)
      refine ⟨_, rfl, lotsD (partsL rooms (ds.zip more)), lotsD (partsL rooms (ds.zip more)), .lst (.inl (.inl hZ)) (newlots_dp hNZ), .lst (.inl (.inl (kW11 _ _ hW))) (dps_same kW11 (newlots_dp hN)), (shp_lots (n := 0) _).ok (by decide), (shp_lots (n := 0) _).ok (by decide), ?_⟩
      have e1 : PyData.eqv (lotsD (partsL rooms (ds.zip more))) (lotsD (partsL rooms (ds.zip more))) = true := by
        have e2 : PyData.eqv (lotsD (partsL rooms (ds.zip more))) (lotsD (partsL rooms (ds.zip more))) = decide (partsL rooms (ds.zip more) = partsL rooms (ds.zip more)) := eqv_lots _ _
        rw [e2, decide_eq_true rfl]
      rw [e1]
      exact q H11 (k09.trans (k10.trans k11))
end
end Bd
namespace Bd
open PySem PySem.Spec PyProof.Rows L2 HT
abbrev sLawGone : Stmt := topS 13
theorem scLawGone : FnScope ["bag", "house", "first", "here", "passed", "turn", "at", "one", "other", "room"] ["bag", "house"] (defScope sLawGone) := ⟨rfl, rfl, rfl, by decide +kernel, rfl, by decide +kernel, by decide +kernel⟩
def spGone (K : PySem.W.Frag) : Sp := fun vs H Q _ => ∃ (a c : Addr) (hv : V) (rooms : Nat) (ds : List (Nat × Nat)), vs = [.ref a, hv] ∧ Bag H a c ∧ Dp K (hid [a, c] H) hv (houseD rooms ds) ∧ rooms ≤ 50 ∧ ds.length ≤ 100 ∧ Doors rooms ds ∧
  ∀ p fl hl pl H' (F G C : List Int), Mvd rooms ds F G C → Bag H' a c → Kp [a, c] H H' → (hid [a, c] H') p = some (.tup [.ref fl, .ref hl, .ref pl]) → (hid [a, c] H') fl = some (.lst (F.map V.int)) → (hid [a, c] H') hl = some (.lst (G.map V.int)) → (hid [a, c] H') pl = some (.lst (C.map V.int)) → Q (.ref p) H'
section
variable {P : Program} {w : World} {K : PySem.W.Frag} {mg : Str → Option Value} {base : Heap}
theorem ok_gone {f : Addr} {fd : FuncData} (F : Fun K "_law_gone" "_law_gone" sLawGone f fd) (cal_law_draw : Ca P w K mg base 1 "_law_draw" spDraw) (m_len : mg "len" = none) (m_range : mg "range" = none) (m_list : mg "list" = none) (m_int : mg "int" = none) :
    FnOk P w K mg base CX0 2 f fd ["bag", "house"] (spGone K) := by
  have sc := scLawGone
  refine F.ok scLawGone (fun vs H Q E h => ?_) (fun cdv A outer s H vs Q E hr h => ?_)
  · obtain ⟨a, c, hv, rooms, ds, rfl, _⟩ := h
    rfl
  · obtain ⟨a, c, hv, rooms, ds, rfl, hB, hh, hro, hld, hok, q⟩ := h
    refine ⟨_, (pss_cons (ps_setLc (i := 2) (own := [("room", 9)]) (g := gName 9) (tt := tYes) (by rfl) sc.nd rfl rfl (sw_true rfl rfl rfl (by decide +kernel)) (pi_range1 (by rfl) m_range (pa_cons (pe_ix ix_tup (pv 1) pe_int (fun _ _ => rfl)) pa_nil)) (blkOk_by (own := [("room", 9)]) (N := ["bag", "house", "first", "here", "passed", "turn", "at", "one", "other", "room"]) (sc := defScope sLawGone) (by decide +kernel)) (fun _ _ _ _ _ => (pg_name (i := 9) sc.nd rfl (.inl rfl))) (fun _ _ _ _ _ => pts_nil) (fun _ _ _ _ _ => (pe_u cal_law_draw hr (by first | decide | exact Nat.le_refl _ | omega) (by rfl) (pa_cons (pv 0) (pa_cons pe_int pa_nil)))))
  (pss_cons (ps_set (i := 3) sc.nd rfl (.inl rfl) (pe_callTy call_list_of (by rfl) m_list (by decide +kernel) (pa_cons (pv 2) pa_nil)))
  (pss_cons (ps_set (i := 4) sc.nd rfl (.inl rfl) (pe_op op_rep (pe_lst (pa_cons pe_int pa_nil)) (pe_callB call_len_seq (by rfl) m_len PySem.boot_len (pa_cons (pe_ix ix_tup (pv 1) pe_int (fun _ _ => rfl)) pa_nil))))
  (pss_cons (ps_for PassesOwn.never rfl (pi_range1 (by rfl) m_range (pa_cons (pe_op op_mul (pe_u cal_law_draw hr (by first | decide | exact Nat.le_refl _ | omega) (by rfl) (pa_cons (pv 0) (pa_cons pe_int pa_nil))) (pe_callTy call_int1 (by rfl) m_int (by decide +kernel) (pa_cons (pe_cmpR (op_neD hr.units) (pe_ix ix_tup (pv 1) pe_int (fun _ _ => rfl)) (pe_lst pa_nil) (nomark _)) pa_nil))) pa_nil)) (pg_name (i := 5) sc.nd rfl (.inl rfl))
    (pss_cons (ps_set (i := 6) sc.nd rfl (.inl rfl) (pe_u cal_law_draw hr (by first | decide | exact Nat.le_refl _ | omega) (by rfl) (pa_cons (pv 0) (pa_cons (pe_callB call_len_seq (by rfl) m_len PySem.boot_len (pa_cons (pe_ix ix_tup (pv 1) pe_int (fun _ _ => rfl)) pa_nil)) pa_nil))))
  (pss_cons (ps_asg (pe_stepT (pe_ix ix_list (pe_ix ix_tup (pv 1) pe_int (fun _ _ => rfl)) (pv 6) (fun _ _ => rfl)) (pe_ix ix_list (pe_lst (pa_cons pe_int (pa_cons (pe_un un_neg pe_int) pa_nil))) (pe_u cal_law_draw hr (by first | decide | exact Nat.le_refl _ | omega) (by rfl) (pa_cons (pv 0) (pa_cons pe_int pa_nil))) (fun _ _ => rfl))) (pg_tup (by rfl) (pgs_cons (pg_name (i := 7) sc.nd rfl (.inl rfl)) (pgs_cons (pg_name (i := 8) sc.nd rfl (.inl rfl)) pgs_nil))))
  (pss_one (ps_if (pt_cmpR op_gt (pe_ix ix_list (pv 3) (pv 7) (fun _ _ => rfl)) pe_int (nomark _))
    (pss_cons (ps_asg (pe_op op_sub (pe_ix ix_list (pv 3) (pv 7) (fun _ _ => rfl)) pe_int) (pg_sub (pv 3) (pv 7) set_list))
  (pss_cons (ps_asg (pe_op op_add (pe_ix ix_list (pv 3) (pv 8) (fun _ _ => rfl)) pe_int) (pg_sub (pv 3) (pv 8) set_list))
  (pss_one (ps_asg (pe_op op_add (pe_ix ix_list (pv 4) (pv 6) (fun _ _ => rfl)) pe_int) (pg_sub (pv 4) (pv 6) set_list)))))
    pss_nil)))))
  (pss_one (ps_ret (pe_tup (pa_cons (pv 2) (pa_cons (pv 3) (pa_cons (pv 4) pa_nil)))))))))), ?_⟩
    obtain ⟨sh, ad, vs, rfl, t1, l1, a1⟩ := house_of hh
    have hvl : vs.length = ds.length := by rw [dps_len a1, List.length_map]
    have tt : ∀ {H1 : Hp}, Kp [a, c] H H1 → SqT K H1 sh [.int rooms, .ref ad] := fun k => same_tup hid_same (same_tup k t1)
    have ll : ∀ {H1 : Hp}, Kp [a, c] H H1 → SqL K H1 ad vs := fun k => hid_same.seq (Same.seq k l1)
    -- first
    refine ⟨_, rfl, _, _, _, _, rfl, rfl, tt Kp.refl, rfl, _, rfl, by omega, by omega, fun D nD => ?_⟩
    have oD := hB.out nD
    have nDH : hid [a, c] H D = none := hid_none nD
    refine lc_range (lo := 0) (n := rooms) (fun i H1 => ∃ F : List Int, F.length = i ∧ H1 D = some (.lst (F.map V.int)) ∧ Bag H1 a c ∧ Kp [a, c] H H1) ⟨[], rfl, upd_same, hB.new nD, Kp.refl.new nDH⟩ ?_ ?_
    · rintro i H1 hi ⟨F, lF, hD, B1, k1⟩
      refine ⟨rfl, _, rfl, a, c, 3, rfl, B1, by decide, by decide, fun r H2 h0 h3 B2 k2 => ?_⟩
      refine ⟨F.map V.int, k2.at hD oD, ?_, F ++ [r], by rw [List.length_append, lF]; rfl, by rw [upd_same, List.map_append]; rfl, B2.wr oD, (k1.trans k2).new nDH⟩
      rw [List.length_map]; exact small1000 (by omega)
    rintro H1 ⟨F, lF, hD, B1, k1⟩
    -- here
    refine ⟨_, rfl, D, _, rfl, .inl (.inl (.inl hD)), fun L nL => ?_⟩
    have oL := B1.out nL
    have nLH : hid [a, c] H L = none := k1.free nL
    have neLD : L ≠ D := ne_new hD nL
    have k2 : Kp [a, c] H (upd H1 L (.lst (F.map V.int))) := k1.new nLH
    have B2 : Bag (upd H1 L (.lst (F.map V.int))) a c := B1.new nL
    have hD2 : (upd H1 L (.lst (F.map V.int))) D = some (.lst (F.map V.int)) := (same_new nL) _ _ hD
    have hL2 : (upd H1 L (.lst (F.map V.int))) L = some (.lst (F.map V.int)) := upd_same
    generalize upd H1 L (.lst (F.map V.int)) = H2 at k2 B2 hD2 hL2 ⊢
    -- passed
    refine ⟨(by show 1 ≤ sizeLine; decide), fun Z nZ => ?_⟩
    have kz : Same H2 (upd H2 Z (.lst [.int 0])) := same_new nZ
    refine ⟨_, rfl, _, _, _, _, rfl, rfl, tt (k2.trans (Kp.same kz)), rfl, _, _, rfl, .inl (ll (k2.trans (Kp.same kz))), Z, _, _, rfl, rfl, upd_same, by omega, by omega, ?_, fun S nS => ?_⟩
    · show 1 * (Int.toNat (vs.length : Int)) ≤ sizeLine
      rw [Int.toNat_natCast, Nat.one_mul]
      exact Nat.le_of_lt (small1000 (by omega))
    have e0 : (List.replicate (Int.toNat (vs.length : Int)) [V.int 0]).flatten = (List.replicate ds.length (0 : Int)).map V.int := by
      rw [Int.toNat_natCast, hvl, flat_rep]
    rw [e0]
    have k3' : Same H2 (upd (upd H2 Z (.lst [.int 0])) S (.lst ((List.replicate ds.length (0 : Int)).map V.int))) := kz.trans (same_new nS)
    have k3 := k2.trans (Kp.same k3')
    have B3 := B2.keep k3'
    have hS3 : (upd (upd H2 Z (.lst [.int 0])) S (.lst ((List.replicate ds.length (0 : Int)).map V.int))) S = some (.lst ((List.replicate ds.length (0 : Int)).map V.int)) := upd_same
    have hD3 := k3' _ _ hD2
    have hL3 := k3' _ _ hL2
    have nS2 : H2 S = none := kz.free nS
    have oS := B2.out nS2
    have nSH : hid [a, c] H S = none := k2.free nS2
    have neSD : S ≠ D := ne_new hD2 nS2
    have neSL : S ≠ L := ne_new hL2 nS2
    generalize upd (upd H2 Z (.lst [.int 0])) S (.lst ((List.replicate ds.length (0 : Int)).map V.int)) = H3 at k3 B3 hS3 hD3 hL3 ⊢
    -- the goings
    refine ⟨_, rfl, a, c, 31, rfl, B3, by decide, by decide, fun r4 H4 h4a h4b B4 k4 => ?_⟩
    have k04 := k3.trans k4
    refine ⟨_, rfl, _, _, _, _, rfl, rfl, tt k04, rfl, Nat.zero_le _, fun N0 nN0 => ?_⟩
    have k5 : Same H4 (upd H4 N0 (.lst [])) := same_new nN0
    have k05 := k04.trans (Kp.same k5)
    have dd : Dp K (upd H4 N0 (.lst [])) (.ref ad) (doorsD ds) := .lst (ll k05) (dps_same hid_same (dps_same k05 a1))
    refine ⟨doorsD ds, .list [], dd, .lst (.inl (.inl upd_same)) .nil, (shp_doors (n := 0) ds).ok (by decide), rfl, .inr ⟨_, rfl, ?_⟩⟩
    have hD5 := k5 _ _ (k4.at hD3 oD)
    have hL5 := k5 _ _ (k4.at hL3 oL)
    have hS5 := k5 _ _ (k4.at hS3 oS)
    have B5 := B4.keep k5
    generalize upd H4 N0 (.lst []) = H5 at k05 hD5 hL5 hS5 B5 ⊢
    obtain ⟨n, en, hn1, hn2⟩ : ∃ n : Nat, r4 * (if (!PyData.eqv (doorsD ds) (.list [])) = true then 1 else 0) = (n : Int) ∧ n ≤ 31 ∧ (0 < n → 0 < ds.length) := by
      cases ds with
      | nil => exact ⟨0, by rw [if_neg (by decide), Int.mul_zero]; rfl, Nat.zero_le _, fun h => absurd h (by decide)⟩
      | cons d ds =>
        refine ⟨r4.toNat, ?_, by omega, fun _ => by rw [List.length_cons]; omega⟩
        have e1 : (!PyData.eqv (doorsD (d :: ds)) (.list [])) = true := rfl
        rw [if_pos e1]
        omega
    refine ⟨_, _, rfl, rfl, .inl ⟨by omega, by omega⟩, ?_⟩
    refine ⟨(n : Int), congrArg (fun z => [V.int z]) en, by omega, by omega, for_range (lo := 0) (n := n) (fun i σ H6 => ∃ (G C : List Int) (x y z u : Option V), σ = [some (.ref a), some (.ref sh), some (.ref D), some (.ref L), some (.ref S), x, y, z, u, none] ∧ Mvd rooms ds F G C ∧ H6 D = some (.lst (F.map V.int)) ∧ H6 L = some (.lst (G.map V.int)) ∧ H6 S = some (.lst (C.map V.int)) ∧ Bag H6 a c ∧ Kp [a, c] H H6)
      ⟨F, List.replicate ds.length 0, none, none, none, none, rfl, mvd_start lF, hD5, hL5, hS5, B5, k05⟩ ?_ ?_⟩
    · rintro i σ H6 hi ⟨G, C, x, y, z, u, rfl, hM, hD6, hL6, hS6, B6, k6⟩
      have hpos := hn2 (by omega)
      -- at
      refine ⟨_, rfl, _, rfl, _, _, _, _, rfl, rfl, tt k6, rfl, _, _, rfl, .inl (ll k6), a, c, _, rfl, B6, by omega, by omega, fun r7 H7 h7a h7b B7 k7 => ?_⟩
      obtain ⟨k, rfl⟩ : ∃ k : Nat, r7 = (k : Int) := ⟨r7.toNat, by omega⟩
      have ed : ds[k]? = some (ds[k]'(by omega)) := List.getElem?_eq_getElem (by omega)
      generalize ds[k]'(by omega) = d at ed
      obtain ⟨d1, d2, d3⟩ := hok d (List.mem_of_getElem? ed)
      obtain ⟨v, ev, dv⟩ := dps_at a1 (i := k) (d := pairD d) (by rw [List.getElem?_map, ed]; rfl)
      obtain ⟨pp, rfl, tp⟩ := pair_of dv
      have k07 := k6.trans k7
      have hD7 := k7.at hD6 oD
      have hL7 := k7.at hL6 oL
      have hS7 := k7.at hS6 oS
      -- one, other
      refine ⟨_, rfl, _, _, _, _, rfl, rfl, tt k07, rfl, _, rfl, _, _, _, _, rfl, rfl, ll k07, atI_nat ev, ?_⟩
      refine ⟨_, rfl, (by show 2 ≤ sizeLine; decide), fun W nW => ?_⟩
      refine ⟨_, rfl, a, c, 2, rfl, B7.new nW, by decide, by decide, fun r8 H8 h8a h8b B8 k8 => ?_⟩
      obtain ⟨v8, e8, f8⟩ := atI_two (x := V.int 1) (y := V.int (-1)) h8a h8b
      obtain ⟨st, rfl, hst⟩ : ∃ st : Int, v8 = .int st ∧ (st = 1 ∨ st = -1) := by
        rcases f8 with rfl | rfl
        · exact ⟨1, rfl, .inl rfl⟩
        · exact ⟨-1, rfl, .inr rfl⟩
      have k78 : Kp [a, c] H7 H8 := (Kp.refl.new (hid_none nW)).trans k8
      have k08 := k07.trans k78
      have hW8 := k8.at upd_same (B7.out nW)
      have hD8 := k78.at hD7 oD
      have hL8 := k78.at hL7 oL
      have hS8 := k78.at hS7 oS
      have tp8 : SqT K H8 pp [.int d.1, .int d.2] := same_tup hid_same (same_tup k08 tp)
      obtain ⟨cc, ec⟩ : ∃ cc, C[k]? = some cc := ⟨C[k]'(by rw [hM.lc]; omega), List.getElem?_eq_getElem _⟩
      have g1 : ∀ r : Nat, r < rooms → (G.map V.int)[r]? = some (.int (G.getD r 0)) := fun r hr => by
        have e : G[r]? = some (G[r]'(by rw [hM.lg]; exact hr)) := List.getElem?_eq_getElem _
        rw [List.getElem?_map, getD_of e, e]; rfl
      refine ⟨_, _, _, _, rfl, rfl, .inl (.inl hW8), e8, st, pp, _, _, rfl, rfl, tp8, hst, fun _ => ?_, fun _ T nT => ?_⟩
      · refine ⟨pp, _, rfl, tp8, rfl, _, _, rfl, _, _, rfl, rfl, ?_⟩
        refine ⟨_, rfl, _, rfl, _, _, _, _, rfl, rfl, .inl (.inl hL8), atI_nat (g1 d.1 d1), _, _, rfl, rfl, _, rfl, ite2 (fun e => ?_) (fun e => ?_)⟩
        · refine ⟨_, rfl, _, rfl, _, _, _, _, rfl, rfl, .inl (.inl hL8), atI_nat (g1 d.1 d1), _, _, rfl, rfl, _, rfl, _, rfl, _, _, _, d.1, rfl, rfl, hL8, ?_, ?_⟩
          · rw [List.length_map, hM.lg]; exact ixN_nat d1
          have g2 : ((G.map V.int).set d.1 (.int (G.getD d.1 0 - 1)))[d.2]? = some (.int (G.getD d.2 0)) := by
            rw [List.getElem?_set_ne d3]
            exact g1 d.2 d2
          refine ⟨_, rfl, _, rfl, _, _, _, _, rfl, rfl, .inl (.inl upd_same), atI_nat g2, _, _, rfl, rfl, _, rfl, _, rfl, _, _, _, d.2, rfl, rfl, upd_same, ?_, ?_⟩
          · rw [List.length_set, List.length_map, hM.lg]; exact ixN_nat d2
          rw [upd_upd]
          have hS9 : (upd H8 L (.lst (((G.map V.int).set d.1 (.int (G.getD d.1 0 - 1))).set d.2 (.int (G.getD d.2 0 + 1))))) S = some (.lst (C.map V.int)) := by rw [upd_ne neSL]; exact hS8
          refine ⟨_, rfl, _, rfl, _, _, _, _, rfl, rfl, .inl (.inl hS9), atI_nat (by rw [List.getElem?_map, ec]; rfl), _, _, rfl, rfl, _, rfl, _, rfl, _, _, _, k, rfl, rfl, hS9, ?_, ?_⟩
          · rw [List.length_map, hM.lc]; exact ixN_nat (by omega)
          refine ⟨_, _, _, _, _, _, rfl, mvd_step hM ed ec (.inl ⟨rfl, rfl⟩) d1 d2 d3, ?_, ?_, ?_, (B8.wr oL).wr oS, (k08.new nLH).new nSH⟩
          · rw [upd_ne neSD.symm, upd_ne neLD.symm]; exact hD8
          · rw [upd_ne neSL.symm, upd_same, List.map_set, List.map_set]
          · rw [upd_same, List.map_set]
        · exact ⟨G, C, _, _, _, _, rfl, hM, hD8, hL8, hS8, B8, k08⟩
      · have kT : Same H8 (upd H8 T (.tup [.int (d.2 : Int), .int (d.1 : Int)])) := same_new nT
        have hT : (upd H8 T (.tup [.int (d.2 : Int), .int (d.1 : Int)])) T = some (.tup [.int (d.2 : Int), .int (d.1 : Int)]) := upd_same
        have k09 := k08.trans (Kp.same kT)
        have B9 := B8.keep kT
        have hD9 := kT _ _ hD8
        have hL9 := kT _ _ hL8
        have hS9' := kT _ _ hS8
        generalize upd H8 T (.tup [.int (d.2 : Int), .int (d.1 : Int)]) = H9 at hT k09 B9 hD9 hL9 hS9' ⊢
        refine ⟨T, _, rfl, .inl (.inl hT), rfl, _, _, rfl, _, _, rfl, rfl, ?_⟩
        refine ⟨_, rfl, _, rfl, _, _, _, _, rfl, rfl, .inl (.inl hL9), atI_nat (g1 d.2 d2), _, _, rfl, rfl, _, rfl, ite2 (fun e => ?_) (fun e => ?_)⟩
        · refine ⟨_, rfl, _, rfl, _, _, _, _, rfl, rfl, .inl (.inl hL9), atI_nat (g1 d.2 d2), _, _, rfl, rfl, _, rfl, _, rfl, _, _, _, d.2, rfl, rfl, hL9, ?_, ?_⟩
          · rw [List.length_map, hM.lg]; exact ixN_nat d2
          have g2 : ((G.map V.int).set d.2 (.int (G.getD d.2 0 - 1)))[d.1]? = some (.int (G.getD d.1 0)) := by
            rw [List.getElem?_set_ne (Ne.symm d3)]
            exact g1 d.1 d1
          refine ⟨_, rfl, _, rfl, _, _, _, _, rfl, rfl, .inl (.inl upd_same), atI_nat g2, _, _, rfl, rfl, _, rfl, _, rfl, _, _, _, d.1, rfl, rfl, upd_same, ?_, ?_⟩
          · rw [List.length_set, List.length_map, hM.lg]; exact ixN_nat d1
          rw [upd_upd]
          have hS9 : (upd H9 L (.lst (((G.map V.int).set d.2 (.int (G.getD d.2 0 - 1))).set d.1 (.int (G.getD d.1 0 + 1))))) S = some (.lst (C.map V.int)) := by rw [upd_ne neSL]; exact hS9'
          refine ⟨_, rfl, _, rfl, _, _, _, _, rfl, rfl, .inl (.inl hS9), atI_nat (by rw [List.getElem?_map, ec]; rfl), _, _, rfl, rfl, _, rfl, _, rfl, _, _, _, k, rfl, rfl, hS9, ?_, ?_⟩
          · rw [List.length_map, hM.lc]; exact ixN_nat (by omega)
          refine ⟨_, _, _, _, _, _, rfl, mvd_step hM ed ec (.inr ⟨rfl, rfl⟩) d2 d1 (Ne.symm d3), ?_, ?_, ?_, (B9.wr oL).wr oS, (k09.new nLH).new nSH⟩
          · rw [upd_ne neSD.symm, upd_ne neLD.symm]; exact hD9
          · rw [upd_ne neSL.symm, upd_same, List.map_set, List.map_set]
          · rw [upd_same, List.map_set]
        · exact ⟨G, C, _, _, _, _, rfl, hM, hD9, hL9, hS9', B9, k09⟩
    · rintro σ H6 ⟨G, C, x, y, z, u, rfl, hM, hD6, hL6, hS6, B6, k6⟩
      refine ⟨_, rfl, _, rfl, _, rfl, (by show 3 ≤ sizeLine; decide), fun T nT => ?_⟩
      have kT : Same H6 (upd H6 T (.tup [.ref D, .ref L, .ref S])) := same_new nT
      exact q _ _ _ _ _ F G C hM (B6.new nT) (k6.trans (Kp.same kT)) (hid_of upd_same (B6.out nT)) (hid_of (kT _ _ hD6) oD) (hid_of (kT _ _ hL6) oL) (hid_of (kT _ _ hS6) oS)
end
end Bd
namespace Bd
open PySem PySem.Spec PyProof.Rows L2 HT
abbrev sLawGoingsRight : Stmt := topS 14
theorem scLawGoingsRight : FnScope ["bag", "house", "lots", "first", "here", "passed", "whole", "lot", "far", "out", "meets", "room"] ["bag", "house", "lots"] (defScope sLawGoingsRight) := ⟨rfl, rfl, rfl, by decide +kernel, rfl, by decide +kernel, by decide +kernel⟩
def spGoingsRight (K : PySem.W.Frag) : Sp := fun vs H Q _ => ∃ (a c : Addr) (hv : V) (p : Addr) (rooms : Nat) (ds : List (Nat × Nat)) (ls : List (List Nat)), vs = [.ref a, hv, .ref p] ∧ Bag H a c ∧ Dp K (hid [a, c] H) hv (houseD rooms ds) ∧ LotsAt (hid [a, c] H) p ls ∧ LotsOk rooms ls ∧ rooms ≤ 50 ∧ ds.length ≤ 100 ∧ Doors rooms ds ∧
  ∀ H', Bag H' a c → Kp [a, c] H H' → Q (.bl true) H'
theorem ints_snoc {l : List Nat} {f : Nat → Int} {k r : Nat} (h : l[k]? = some r) : ((l.take k).map f).map V.int ++ [V.int (f r)] = ((l.take (k + 1)).map f).map V.int := by
  rw [take_snoc h, List.map_append, List.map_append]
  rfl
section
variable {P : Program} {w : World} {K : PySem.W.Frag} {mg : Str → Option Value} {base : Heap}
theorem ok_goings_right {f : Addr} {fd : FuncData} (F : Fun K "_law_goings_right" "_law_goings_right" sLawGoingsRight f fd) (cal_law_gone : Ca P w K mg base 2 "_law_gone" (spGone K)) (cal_parts : Ca P w K mg base 1 "parts" (spParts K)) (cal_leaving : Ca P w K mg base 1 "leaving" (spLeave K)) (cal_met : Ca P w K mg base 1 "met" (spMet K))
    (m_sum : mg "sum" = none) (m_abs : mg "abs" = none) (m_range : mg "range" = none) : FnOk P w K mg base CX0 3 f fd ["bag", "house", "lots"] (spGoingsRight K) := by
  have sc := scLawGoingsRight
  refine F.ok scLawGoingsRight (fun vs H Q E h => ?_) (fun cdv A outer s H vs Q E hr h => ?_)
  · obtain ⟨a, c, hv, p, rooms, ds, ls, rfl, _⟩ := h
    rfl
  · obtain ⟨a, c, hv, p, rooms, ds, ls, rfl, hB, hh, hL, hok, hro, hld, hdo, q⟩ := h
    refine ⟨_, (pss_cons (ps_asg (pe_u cal_law_gone hr (by first | decide | exact Nat.le_refl _ | omega) (by rfl) (pa_cons (pv 0) (pa_cons (pv 1) pa_nil))) (pg_tup (by rfl) (pgs_cons (pg_name (i := 3) sc.nd rfl (.inr rfl)) (pgs_cons (pg_name (i := 4) sc.nd rfl (.inr rfl)) (pgs_cons (pg_name (i := 5) sc.nd rfl (.inl rfl)) pgs_nil)))))
  (pss_cons (ps_set (i := 6) sc.nd rfl (.inl rfl) (pe_u cal_parts hr (by first | decide | exact Nat.le_refl _ | omega) (by rfl) (pa_cons (pv 1) (pa_cons (pv 5) pa_nil))))
  (pss_cons (ps_for PassesOwn.never rfl (pi_list (pv 2)) (pg_name (i := 7) sc.nd rfl (.inl rfl))
    (pss_cons (ps_set (i := 8) sc.nd rfl (.inl rfl) (pe_callB (cr_sum rfl) (by rfl) m_sum (by decide +kernel) (pa_cons (pe_lc (own := [("room", 11)]) (g := gName 11) (tt := tYes) (by rfl) sc.nd  (pi_list (pv 7)) (blkOk_by (own := [("room", 11)]) (N := ["bag", "house", "lots", "first", "here", "passed", "whole", "lot", "far", "out", "meets", "room"]) (sc := defScope sLawGoingsRight) (by decide +kernel)) (fun _ _ _ _ _ => (pg_name (i := 11) sc.nd rfl (.inl rfl))) (fun _ _ _ _ _ => pts_nil) (fun _ _ _ _ _ => (pe_op op_sub (pe_ix (ixK (rIxL K) ix_list) (pv 4) (pv 11) (fun _ _ => rfl)) (pe_ix (ixK (rIxL K) ix_list) (pv 3) (pv 11) (fun _ _ => rfl))))) pa_nil)))
  (pss_cons (ps_set (i := 9) sc.nd rfl (.inl rfl) (pe_u cal_leaving hr (by first | decide | exact Nat.le_refl _ | omega) (by rfl) (pa_cons (pv 1) (pa_cons (pv 5) (pa_cons (pv 7) pa_nil)))))
  (pss_one (ps_if (PW.pt (pw_or (pt_cmpR op_gt (pe_callB call_abs (by rfl) m_abs (by decide +kernel) (pa_cons (pv 8) pa_nil)) (pv 9) (nomark _)) (pw_or (pt_cmpR op_ne (pe_op op_mod (pe_op op_sub (pv 8) (pv 9)) pe_int) pe_int (nomark _)) (pw_or1 (PW.pt (pw_and (pt_cmpR (op_inD (in_room2 hr)) (pv 7) (pv 6) rfl) (pw_and1 (pt_cmpR op_ne (pv 8) pe_int (nomark _)))))))))
    (pss_one (ps_ret pe_bl))
    pss_nil)))))
  (pss_cons (ps_set (i := 10) sc.nd rfl (.inr rfl) (pe_u cal_met hr (by first | decide | exact Nat.le_refl _ | omega) (by rfl) (pa_cons (pv 1) (pa_cons (pv 5) pa_nil))))
  (pss_one (ps_ret (pe_cmpR (op_eqD hr.units) (pe_lc (own := [("room", 11)]) (g := gName 11)  (by rfl) sc.nd  (pi_range1 (by rfl) m_range (pa_cons (pe_ix ix_tup (pv 1) pe_int (fun _ _ => rfl)) pa_nil)) (blkOk_by (own := [("room", 11)]) (N := ["bag", "house", "lots", "first", "here", "passed", "whole", "lot", "far", "out", "meets", "room"]) (sc := defScope sLawGoingsRight) (by decide +kernel)) (fun _ _ _ _ _ => (pg_name (i := 11) sc.nd rfl (.inl rfl))) (fun _ _ _ _ _ => (pts_one (pt_cmpR op_ne (pe_op op_mod (pe_op op_add (pe_op op_add (pe_ix (ixK (rIxL K) ix_list) (pv 3) (pv 11) (fun _ _ => rfl)) (pe_ix (ixK (rIxL K) ix_list) (pv 4) (pv 11) (fun _ _ => rfl))) (pe_ix (ixK (rIxL K) ix_list) (pv 10) (pv 11) (fun _ _ => rfl))) pe_int) pe_int (nomark _)))) (fun _ _ _ _ _ => (pv 11))) (pe_lst pa_nil) (nomark _)))))))), ?_⟩
    obtain ⟨qs, hp, hqs⟩ := hL
    have lq := hqs.len
    -- first, here, passed
    refine ⟨_, rfl, _, rfl, a, c, _, rooms, ds, rfl, hB, hh, hro, hld, hdo, fun pt fl hl pl H1 F G C hM B1 k1 hpt hfl hhl hpl => ?_⟩
    have hpt := (of_hid hpt).1
    have hfl := (of_hid hfl).1
    have hhl := (of_hid hhl).1
    have hpl := (of_hid hpl).1
    have hid1 : Same (hid [a, c] H) H1 := fun b o z => hid_same _ _ (k1 b o z)
    refine ⟨pt, _, rfl, .inl (.inl hpt), rfl, _, _, rfl, _, _, rfl, _, _, rfl, rfl, ?_⟩
    have zr : ∀ x ∈ ds.zip C, x.1.1 < rooms ∧ x.1.2 < rooms := zip_rooms hdo
    have zp : ∀ x ∈ ds.zip C, 0 ≤ x.2 := fun x hx => hM.pos x.2 (List.of_mem_zip (a := x.1) (b := x.2) hx).2
    have led := led_all (n := rooms) (ds.zip C) zr
    have hlc := hM.lc
    have hld5 : ds.length ≤ 500 := by omega
    have dh1 : Dp K H1 hv (houseD rooms ds) := dp_same hid1 hh
    -- whole
    refine ⟨_, rfl, _, rfl, _, _, rooms, ds, C, rfl, dh1, mk_ints hpl, hro, hlc, hld5, hdo, fun H2 W ws k2 nW hW hN => ?_⟩
    have gG : ∀ r : Nat, r < rooms → (G.map V.int)[r]? = some (.int (G.getD r 0)) := fun r hr => by
      have e : G[r]? = some (G[r]'(by rw [hM.lg]; exact hr)) := List.getElem?_eq_getElem _
      rw [List.getElem?_map, getD_of e, e]; rfl
    have gF : ∀ r : Nat, r < rooms → (F.map V.int)[r]? = some (.int (F.getD r 0)) := fun r hr => by
      have e : F[r]? = some (F[r]'(by rw [hM.lf]; exact hr)) := List.getElem?_eq_getElem _
      rw [List.getElem?_map, getD_of e, e]; rfl
    refine ⟨_, rfl, p, rfl, ⟨_, .inl (.inl (k2 _ _ (hid1 _ _ hp)))⟩, for_list (K := K) (a := p) (xs := qs.map V.ref) (fun i σ H3 => ∃ x y z, σ = [some (.ref a), some hv, some (.ref p), some (.ref fl), some (.ref hl), some (.ref pl), some (.ref W), x, y, z, none, none] ∧ Same H2 H3) ⟨_, _, _, rfl, fun _ _ z => z⟩ (fun i σ H3 _ ⟨_, _, _, _, k⟩ => .inl (.inl (k _ _ (k2 _ _ (hid1 _ _ hp))))) ?_ ?_⟩
    · rintro i v σ H3 hvi ⟨x, y, z, rfl, k3⟩
      have hi := lt_of_at hvi
      rw [List.length_map] at hi
      have el : ls[i]? = some (ls[i]'(by omega)) := List.getElem?_eq_getElem (by omega)
      generalize ls[i]'(by omega) = lot at el
      obtain ⟨q0, e0, _, hq0⟩ := hqs.at el
      obtain rfl : v = .ref q0 := by
        rw [List.getElem?_map, e0] at hvi
        exact (Option.some.inj hvi).symm
      obtain ⟨o1, o2, o3⟩ := hok lot (List.mem_of_getElem? el)
      have k13 := k2.trans k3
      have hq3 := k13 _ _ (hid1 _ _ hq0)
      -- far
      refine ⟨_, rfl, q0, rfl, ⟨_, .inl (.inl hq3)⟩, fun D nD => ?_⟩
      refine lc_list (K := K) (a := q0) (xs := (natsL lot).map V.int) (fun k H4 => Same H3 H4 ∧ H4 D = some (.lst (((lot.take k).map fun r => G.getD r 0 - F.getD r 0).map V.int))) ⟨same_new nD, upd_same⟩ (fun k H4 _ ⟨k4, _⟩ => .inl (.inl (k4 _ _ hq3))) ?_ ?_
      · rintro k v H4 hv4 ⟨k4, hD⟩
        obtain ⟨r, rfl, er⟩ := nats_at hv4
        have hr := o3 r (List.mem_of_getElem? er)
        have k14 := k13.trans k4
        refine ⟨rfl, _, rfl, _, rfl, _, _, _, _, rfl, rfl, .inl (.inl (k14 _ _ hhl)), atI_nat (gG r hr), _, rfl, _, rfl, _, _, _, _, rfl, rfl, .inl (.inl (k14 _ _ hfl)), atI_nat (gF r hr), _, _, rfl, rfl, ?_⟩
        have hk := lt_of_at er
        refine ⟨_, hD, ?_, fun b o z => ?_, ?_⟩
        · rw [List.length_map, List.length_map]; exact small1000 (Nat.le_trans (List.length_take_le' _ _) (by omega))
        · rw [upd_ne (ne_of_none z nD)]; exact k4 b o z
        · rw [upd_same]; exact congrArg (fun l => some (HO.lst l)) (ints_snoc (f := fun r => G.getD r 0 - F.getD r 0) er)
      rintro H4 ⟨k4, hD⟩
      rw [List.length_map, natsL_len, List.take_of_length_le (Nat.le_refl _)] at hD
      have k14 := k13.trans k4
      refine ⟨D, _, rfl, .inl (.inl hD), ?_⟩
      have ef : (lot.map fun r => G.getD r 0 - F.getD r 0).sum = farM F G lot := rfl
      rw [ef]
      -- out
      refine ⟨_, rfl, _, rfl, _, rfl, _, _, _, rooms, ds, C, lot, rfl, dp_same k14 dh1, dp_same k14 (mk_ints hpl), mk_ints (k4 _ _ hq3), hlc, hld5, fun H5 k5 => ?_⟩
      obtain ⟨f1, f2, f3⟩ := hM.far lot o1
      have k15 := k14.trans k5
      refine ⟨_, rfl, _, rfl, _, rfl, _, _, rfl, rfl, _, rfl, ifF ?_ ?_⟩
      · rw [decide_eq_true_iff]
        split <;> omega
      refine ⟨_, rfl, _, rfl, _, _, rfl, rfl, _, _, rfl, rfl, (by show (0 : Int) < 2; decide), rfl, _, rfl, ifF ?_ ?_⟩
      · show ¬ (!decide (V.int ((farM F G lot - leaveM (ds.zip C) lot) % 2) = V.int 0)) = true
        rw [f3, decide_eq_true rfl]
        decide
      have dl5 : Dp K H5 (.ref q0) (lotD lot) := mk_ints (k5 _ _ (k4 _ _ hq3))
      have dW5 : Dp K H5 (.ref W) (lotsD (partsL rooms (ds.zip C))) := dp_same (k3.trans (k4.trans k5)) (.lst (.inl (.inl hW)) (newlots_dp hN))
      have nxt : ∀ y z, ∃ x y' z', [some (V.ref a), some hv, some (V.ref p), some (V.ref fl), some (V.ref hl), some (V.ref pl), some (V.ref W), some (V.ref q0), y, z, none, none] = [some (V.ref a), some hv, some (V.ref p), some (V.ref fl), some (V.ref hl), some (V.ref pl), some (V.ref W), x, y', z', none, none] ∧ Same H2 H5 := fun y z => ⟨_, _, _, rfl, k3.trans (k4.trans k5)⟩
      refine ⟨_, rfl, _, rfl, lotD lot, (partsL rooms (ds.zip C)).map lotD, dl5, dW5, (shp_lot (n := 0) _).ok (by decide), (shp_lots (n := 0) _).ok (by decide), _, rfl, ite2 (fun e => ?_) (fun e => ?_)⟩
      · have hin : lot ∈ partsL rooms (ds.zip C) := by
          rw [List.any_map, List.any_eq_true] at e
          obtain ⟨l, hl, he⟩ := e
          have he2 : PyData.eqv (lotD l) (lotD lot) = true := he
          rw [eqv_lot, decide_eq_true_iff] at he2
          rw [← he2]; exact hl
        have hz : leaveM (ds.zip C) lot = 0 := by
          refine (leave_zero lot zp).mpr fun x hx hp => ?_
          obtain ⟨m, hm, _, rfl⟩ := lots_mem.mp hin
          obtain ⟨ha, hb⟩ := zr x hx
          rw [class_mem, class_mem, led.eq x hx hp]
          exact ⟨fun z => ⟨hb, z.2⟩, fun z => ⟨ha, z.2⟩⟩
        have hf : farM F G lot = 0 := by omega
        refine ⟨_, rfl, rfl, _, rfl, ifF ?_ (nxt _ _)⟩
        rw [decide_eq_true (congrArg V.int hf)]
        decide
      · exact ifF (by decide) (nxt _ _)
    · rintro σ H3 ⟨x, y, z, rfl, k3⟩
      have k13 := k2.trans k3
      -- meets
      refine ⟨_, rfl, _, rfl, _, _, rooms, ds, C, rfl, dp_same k13 dh1, dp_same k13 (mk_ints hpl), by omega, hlc, hld5, hdo, fun H4 M k4 nM hMt => ?_⟩
      have k14 := k13.trans k4
      obtain ⟨sh, ad, vs, rfl, t1, l1, a1⟩ := house_of dh1
      refine ⟨_, rfl, _, _, _, _, rfl, rfl, same_tup k14 t1, rfl, _, rfl, by omega, by omega, fun D nD => ?_⟩
      refine lc_range (lo := 0) (n := rooms) (fun i H5 => Same H4 H5 ∧ H5 D = some (.lst [])) ⟨same_new nD, upd_same⟩ ?_ ?_
      · rintro r H5 hr ⟨k5, hD⟩
        have k15 := k14.trans k5
        have hr' : r < rooms := by omega
        refine ⟨rfl, _, rfl, _, rfl, _, _, _, _, rfl, rfl, .inl (.inl (k15 _ _ hfl)), by rw [Int.zero_add]; exact atI_nat (gF r hr'), _, rfl, _, rfl, _, _, _, _, rfl, rfl, .inl (.inl (k15 _ _ hhl)), by rw [Int.zero_add]; exact atI_nat (gG r hr'), _, _, rfl, rfl, ?_⟩
        refine ⟨_, rfl, _, rfl, _, _, _, _, rfl, rfl, .inl (.inl (k5 _ _ hMt)), by rw [Int.zero_add]; exact atI_nat (by rw [List.getElem?_map, metL_at _ hr']; rfl), _, _, rfl, rfl, _, _, rfl, rfl, (by show (0 : Int) < 2; decide), rfl, _, rfl, ifF ?_ ⟨k5, hD⟩⟩
        show ¬ (!decide (V.int ((F.getD r 0 + G.getD r 0 + metAt (ds.zip C) r) % 2) = V.int 0)) = true
        rw [hM.par r hr', decide_eq_true rfl]
        decide
      rintro H5 ⟨k5, hD⟩
      refine ⟨Nat.zero_le _, fun N0 nN0 => ?_⟩
      have k6 : Same H5 (upd H5 N0 (.lst [])) := same_new nN0
      refine ⟨lotD [], lotD [], mk_ints (ns := []) (k6 _ _ hD), mk_ints (ns := []) upd_same, (shp_lot (n := 0) _).ok (by decide), (shp_lot (n := 0) _).ok (by decide), ?_⟩
      have e1 : PyData.eqv (lotD []) (lotD []) = true := rfl
      rw [e1]
      have kk := k14.trans (k5.trans k6)
      exact q _ (B1.keep kk) (k1.trans (Kp.same kk))
end
end Bd
namespace Bd
open PySem PySem.Spec PyProof.Rows L2 HT
abbrev sLaw : Stmt := topS 15
theorem scLaw : FnScope ["script", "bag", "k", "house", "lots", "tallies", "kept", "turn"] ["script"] (defScope sLaw) := ⟨rfl, rfl, rfl, by decide +kernel, rfl, by decide +kernel, by decide +kernel⟩
theorem rp_small {r : Nat} (h : r < 16) : Rp (.int (r : Int)) 0 4 := by
  have h0 := rp_int (i := (r : Int)) (by omega) (by omega)
  have hl : ((r : Int)).natAbs.log2 < 4 := PySem.Flt.log2_lt_of (by decide) (by omega)
  refine ⟨h0.lay, h0.dep, h0.sho, h0.sml, ?_⟩
  show (if (r : Int) == 0 then 0 else ((r : Int)).natAbs.log2 + 1) ≤ 4
  split <;> omega
theorem rp_lot {l : List Nat} (h1 : l.length ≤ 10) (h2 : ∀ r ∈ l, r < 16) : Rp (lotD l) 1 50 := by
  have := rp_list (n := 0) (W := 4) (xs := (natsL l).map .int) fun x hx => by
    obtain ⟨i, hi, rfl⟩ := List.mem_map.mp hx
    obtain ⟨r, hr, rfl⟩ := List.mem_map.mp hi
    exact rp_small (h2 r hr)
  refine this.up (by decide) ?_
  rw [List.length_map, natsL_len]
  omega
theorem rp_lots {n : Nat} {ls : List (List Nat)} (hn : n ≤ 10) (h : LotsOk n ls) (h2 : ls.length ≤ 1024) : Rp (lotsD ls) 2 52224 := by
  have := rp_list (n := 1) (W := 50) (xs := ls.map lotD) fun x hx => by
    obtain ⟨l, hl, rfl⟩ := List.mem_map.mp hx
    obtain ⟨_, q2, q3⟩ := h l hl
    exact rp_lot (by omega) fun r hr => by have := q3 r hr; omega
  refine this.up (by decide) ?_
  rw [List.length_map]
  omega
theorem rp_cs {cs : List Int} (h : ∀ x ∈ cs, 0 ≤ x ∧ x < 10 ^ 20) (h2 : cs.length ≤ 24) : Rp (.list (cs.map .int)) 1 2184 := by
  have := rp_list (n := 0) (W := 90) (xs := cs.map .int) fun x hx => by
    obtain ⟨i, hi, rfl⟩ := List.mem_map.mp hx
    obtain ⟨q1, q2⟩ := h i hi
    exact rp_int (by omega) (by omega)
  refine this.up (by decide) ?_
  rw [List.length_map]
  omega
theorem rp_three {d e g : PyData} {n W V U : Nat} (h1 : Rp d n W) (h2 : Rp e n V) (h3 : Rp g n U) : Rp (.list [d, e, g]) (n + 1) (W + V + U + 3) := by
  have a := rp_list (n := n) (W := max W (max V U)) (xs := [d, e, g]) fun x hx => by
    rcases List.mem_cons.mp hx with rfl | hx
    · exact h1.up (Nat.le_refl _) (by omega)
    · rcases List.mem_cons.mp hx with rfl | hx
      · exact h2.up (Nat.le_refl _) (by omega)
      · rw [List.mem_singleton.mp hx]; exact h3.up (Nat.le_refl _) (by omega)
  refine ⟨a.lay, a.dep, a.sho, a.sml, ?_⟩
  have w1 := h1.wei
  have w2 := h2.wei
  have w3 := h3.wei
  simp only [PyData.weight, PyData.weightAll]
  omega
theorem lotsOk_up {n m : Nat} {ls : List (List Nat)} (h : LotsOk n ls) (hn : n ≤ m) : LotsOk m ls := fun l hl => by
  obtain ⟨q1, q2, q3⟩ := h l hl
  exact ⟨q1, by omega, fun r hr => by have := q3 r hr; omega⟩
section
variable {P : Program} {w : World} {K : PySem.W.Frag} {mg : Str → Option Value} {base : Heap}
theorem ok_law {f : Addr} {fd : FuncData} (F : Fun K "law" "law" sLaw f fd) (cal_law_bag : Ca P w K mg base 1 "_law_bag" (spBag K)) (cal_law_draw : Ca P w K mg base 1 "_law_draw" spDraw) (cal_law_ground : Ca P w K mg base 2 "_law_ground" (spGround K)) (cal_law_lots : Ca P w K mg base 1 "_law_lots" (spLots K)) (cal_law_tallies : Ca P w K mg base 2 "_law_tallies" (spTallies K))
    (cal_law_parts_right : Ca P w K mg base 2 "_law_parts_right" (spPartsRight K)) (cal_law_goings_right : Ca P w K mg base 3 "_law_goings_right" (spGoingsRight K)) (cal_law_two_right : Ca P w K mg base 2 "_law_two_right" (spTwoRight K)) (cal_law_more_right : Ca P w K mg base 2 "_law_more_right" (spMoreRight K))
    (m_range : mg "range" = none) (m_repr : mg "repr" = none) : FnG P w K mg base 4 f fd ["script"] (spLaw K) := by
  have sc := scLaw
  refine fnG_of F scLaw (fun vs H Q E h => ?_) (fun cdv A outer s H vs Q E hr hg h => ?_)
  · obtain ⟨a, ns, rfl, _⟩ := h
    rfl
  · obtain ⟨a, ns, rfl, hS, hlen, q⟩ := h
    refine ⟨_, (pss_cons (ps_set (i := 1) sc.nd rfl (.inl rfl) (pe_u cal_law_bag hr (by first | decide | exact Nat.le_refl _ | omega) (by rfl) (pa_cons (pv 0) pa_nil)))
  (pss_cons (ps_for PassesOwn.never rfl (pi_range1 (by rfl) m_range (pa_cons pe_int pa_nil)) (pg_name (i := 2) sc.nd rfl (.inl rfl))
    (pss_cons (ps_set (i := 3) sc.nd rfl (.inl rfl) (pe_u cal_law_ground hr (by first | decide | exact Nat.le_refl _ | omega) (by rfl) (pa_cons (pv 1) (pa_cons pe_int (pa_cons pe_int pa_nil)))))
  (pss_mid (ps_if (pt_cmpR op_eq (pe_u cal_law_draw hr (by first | decide | exact Nat.le_refl _ | omega) (by rfl) (pa_cons (pv 1) (pa_cons pe_int pa_nil))) pe_int (nomark _))
    (pss_one (ps_set (i := 3) sc.nd rfl (.inl rfl) (pe_u cal_law_ground hr (by first | decide | exact Nat.le_refl _ | omega) (by rfl) (pa_cons (pv 1) (pa_cons pe_int (pa_cons pe_int pa_nil))))))
    pss_nil)
  (pss_cons (ps_set (i := 4) sc.nd rfl (.inl rfl) (pe_u cal_law_lots hr (by first | decide | exact Nat.le_refl _ | omega) (by rfl) (pa_cons (pe_ix ix_tup (pv 3) pe_int (fun _ _ => rfl)) pa_nil)))
  (pss_cons (ps_set (i := 5) sc.nd rfl (.inl rfl) (pe_u cal_law_tallies hr (by first | decide | exact Nat.le_refl _ | omega) (by rfl) (pa_cons (pv 1) (pa_cons (pe_ix ix_tup (pv 3) pe_int (fun _ _ => rfl)) pa_nil))))
  (pss_cons (ps_set (i := 6) sc.nd rfl (.inl rfl) (pe_callB (call_reprD hg hr.units) (by rfl) m_repr (by decide +kernel) (pa_cons (pe_lst (pa_cons (pv 3) (pa_cons (pv 4) (pa_cons (pv 5) pa_nil)))) pa_nil)))
  (pss_cons (ps_if (PW.pt (pw_or (pt_not (pt_val (pe_u cal_law_parts_right hr (by first | decide | exact Nat.le_refl _ | omega) (by rfl) (pa_cons (pv 3) (pa_cons (pv 5) (pa_cons (pv 4) pa_nil)))))) (pw_or1 (pt_not (pt_val (pe_u cal_law_goings_right hr (by first | decide | exact Nat.le_refl _ | omega) (by rfl) (pa_cons (pv 1) (pa_cons (pv 3) (pa_cons (pv 4) pa_nil)))))))))
    (pss_one (ps_ret pe_bl))
    pss_nil)
  (pss_cons (ps_for PassesOwn.never rfl (pi_range1 (by rfl) m_range (pa_cons pe_int pa_nil)) (pg_name (i := 7) sc.nd rfl (.inl rfl))
    (pss_one (ps_if (pt_not (pt_val (pe_u cal_law_two_right hr (by first | decide | exact Nat.le_refl _ | omega) (by rfl) (pa_cons (pv 1) (pa_cons (pv 3) (pa_cons (pv 5) (pa_cons (pv 4) pa_nil)))))))
    (pss_one (ps_ret pe_bl))
    pss_nil)))
  (pss_one (ps_if (PW.pt (pw_or (pt_not (pt_val (pe_u cal_law_more_right hr (by first | decide | exact Nat.le_refl _ | omega) (by rfl) (pa_cons (pv 3) (pa_cons (pv 5) (pa_cons (pe_u cal_law_tallies hr (by first | decide | exact Nat.le_refl _ | omega) (by rfl) (pa_cons (pv 1) (pa_cons (pe_ix ix_tup (pv 3) pe_int (fun _ _ => rfl)) pa_nil))) pa_nil)))))) (pw_or1 (pt_cmpR op_ne (pe_callB (call_reprD hg hr.units) (by rfl) m_repr (by decide +kernel) (pa_cons (pe_lst (pa_cons (pv 3) (pa_cons (pv 4) (pa_cons (pv 5) pa_nil)))) pa_nil)) (pv 6) (nomark _)))))
    (pss_one (ps_ret pe_bl))
    pss_nil))))))))))
  (pss_one (ps_ret pe_bl)))), ?_⟩
    refine ⟨_, rfl, a, ns, rfl, hS, hlen, fun b c H1 k1 nb nc B1 => ?_⟩
    refine ⟨2, rfl, by decide, by decide, for_range (lo := 0) (n := 2) (fun i σ H2 => ∃ x1 x2 x3 x4 x5 x6, σ = [some (.ref a), some (.ref b), x1, x2, x3, x4, x5, x6] ∧ Bag H2 b c) ⟨_, _, _, _, _, _, rfl, B1⟩ ?_ ?_⟩
    · rintro i σ H2 hi ⟨x1, x2, x3, x4, x5, x6, rfl, B2⟩
      -- house
      refine ⟨_, rfl, b, c, 6, 12, rfl, B2, by decide, by decide, by decide, fun hv0 H3' rooms0 ds0 r00 r10 lds0 hok0 B3' k3' dh0 => ?_⟩
      refine ⟨fun σ' H3 => ∃ hv rooms ds, σ' = [some (.ref a), some (.ref b), some (.int (0 + (i : Int))), some hv, x3, x4, x5, x6] ∧ 0 < rooms ∧ rooms ≤ 10 ∧ ds.length ≤ 24 ∧ Doors rooms ds ∧ Bag H3 b c ∧ Dp K (hid [b, c] H3) hv (houseD rooms ds), ?_, ?_⟩
      · refine ⟨_, rfl, b, c, 6, rfl, B3', by decide, by decide, fun r H4 h0 h6 B4 k4 => ⟨rfl, _, rfl, ite2 (fun e => ?_) (fun e => ?_)⟩⟩
        · exact ⟨_, rfl, b, c, 10, 24, rfl, B4, by decide, by decide, by decide, fun hv H3 rooms ds r0 r1 lds hok B3 k3 dh => ⟨hv, rooms, ds, rfl, r0, by omega, by omega, hok, B3, dh⟩⟩
        · exact ⟨hv0, rooms0, ds0, rfl, r00, by omega, by omega, hok0, B4, dp_same k4 dh0⟩
      · rintro σ' H3 ⟨hv, rooms, ds, rfl, r0, r1, lds, hok, B3, dh⟩
        obtain ⟨s, d, vs, rfl, t1, l1, a1⟩ := house_of dh
        -- lots
        refine ⟨_, rfl, _, _, _, _, rfl, rfl, same_tup hid_same t1, rfl, rooms, rfl, r1, fun H4 p qs ls k4 np hp hLL hlen2 hlo => ?_⟩
        have h1024 : ls.length ≤ 1024 := by rw [hlen2]; exact Nat.le_trans (Nat.pow_le_pow_right (by decide) r1) (by decide)
        have hpos : 0 < ls.length := by rw [hlen2]; exact Nat.pow_pos (by decide)
        have B4 := B3.keep k4
        have dL4 : LotsAt (hid [b, c] H4) p ls := ⟨qs, hid_of hp (B3.out np), L2.Paired.mapP hLL fun q l h => ⟨rfl, hid_of h.2 (B3.out h.1)⟩⟩
        have kp4 : Kp [b, c] H3 H4 := Kp.same k4
        have dh4 := dp_same kp4 dh
        have t4 := same_tup kp4 t1
        -- tallies
        refine ⟨_, rfl, _, rfl, _, _, _, _, rfl, rfl, same_tup hid_same t4, rfl, b, c, _, ds, rfl, B4, .lst (Same.seq kp4 l1) (dps_same kp4 a1), by omega, fun t H5 cs lcs bcs B5 k5 dt => ?_⟩
        have dh5 := dp_same k5 dh4
        have dL5 := dL4.mono k5
        have t5 := same_tup k5 t4
        have kp5 : Kp [b, c] H3 H5 := kp4.trans k5
        have cpos : ∀ x ∈ cs, 0 ≤ x := fun x hx => (bcs x hx).1
        -- kept
        have rp : Rp (.list [houseD rooms ds, lotsD ls, .list (cs.map .int)]) 4 (40000 + 52224 + 2184 + 3) := rp_three (rp_house hok (by omega) (by omega)) ((rp_lots r1 hlo h1024).up (by decide) (Nat.le_refl _)) ((rp_cs bcs (by omega)).up (by decide) (Nat.le_refl _))
        refine ⟨_, rfl, _, rfl, _, rfl, (by show 3 ≤ sizeLine; decide), fun p1 np1 => ?_⟩
        have k6 : Same H5 (upd H5 p1 (.lst [.ref s, .ref p, .ref t])) := same_new np1
        refine ⟨p1, .list [houseD rooms ds, lotsD ls, .list (cs.map .int)], 4, _, rfl, .lst (.inl (.inl upd_same)) (.cons (dp_same k6 (dp_same hid_same dh5)) (.cons (dp_same k6 (dp_same hid_same dL5.dp)) (.cons (dp_same k6 (dp_same hid_same dt)) .nil))), rp, by decide, by decide, ?_⟩
        have kp6 := kp5.trans (Kp.same k6)
        have B6 := B5.keep k6
        have dh6 := dp_same (Kp.same k6 : Kp [b, c] H5 _) dh5
        have dL6 := dL5.mono (Kp.same k6 : Kp [b, c] H5 _)
        have dt6 := dp_same (Kp.same k6 : Kp [b, c] H5 _) dt
        have t6 := same_tup (Kp.same k6 : Kp [b, c] H5 _) t5
        generalize upd H5 p1 (.lst [.ref s, .ref p, .ref t]) = H6 at kp6 B6 dh6 dL6 dt6 t6 ⊢
        -- parts_right
        refine ⟨_, rfl, _, rfl, _, rfl, _, _, _, rooms, ds, cs, ls, rfl, dp_same hid_same dh6, dp_same hid_same dt6, dp_same hid_same dL6.dp, by omega, lcs, by omega, hok, cpos, fun H7 k7 => ⟨_, rfl, ifF (by decide) ?_⟩⟩
        have kp7 : Kp [b, c] H6 H7 := Kp.same k7
        -- goings_right
        refine ⟨_, rfl, _, rfl, _, rfl, b, c, _, p, rooms, ds, ls, rfl, B6.keep k7, dp_same kp7 dh6, dL6.mono kp7, hlo, by omega, by omega, hok, fun H8 B8 k8 => ⟨_, rfl, ifF (by decide) ?_⟩⟩
        have kp8 := kp7.trans k8
        -- two_right, six times
        refine ⟨6, rfl, by decide, by decide, for_range (lo := 0) (n := 6) (fun j σ H9 => ∃ x, σ = [some (.ref a), some (.ref b), some (.int (0 + (i : Int))), some (.ref s), some (.ref p), some (.ref t), some (.str (PyData.shown (.list [houseD rooms ds, lotsD ls, .list (cs.map .int)]))), x] ∧ Bag H9 b c ∧ Kp [b, c] H6 H9) ⟨_, rfl, B8, kp8⟩ ?_ ?_⟩
        · rintro j σ H9 hj ⟨x, rfl, B9, k9⟩
          exact ⟨_, rfl, _, rfl, _, rfl, _, rfl, b, c, _, _, p, rooms, ds, cs, ls, rfl, B9, dp_same k9 dh6, dp_same k9 dt6, dL6.mono k9, lotsOk_up hlo r1, hpos, h1024, lcs, by omega, fun H10 B10 k10 => ⟨_, rfl, ifF (by decide) ⟨_, rfl, B10, k9.trans k10⟩⟩⟩
        · rintro σ H9 ⟨x, rfl, B9, k9⟩
          have kp9 := kp6.trans k9
          have t9 := same_tup k9 t6
          -- more_right
          refine ⟨_, rfl, _, rfl, _, rfl, _, rfl, _, _, _, _, rfl, rfl, same_tup hid_same t9, rfl, b, c, _, ds, rfl, B9, .lst (Same.seq kp9 l1) (dps_same kp9 a1), by omega, fun t2 H10 os los bos B10 k10 dt2 => ?_⟩
          have k610 := k9.trans k10
          refine ⟨_, _, _, rooms, ds, cs, os, rfl, dp_same hid_same (dp_same k610 dh6), dp_same hid_same (dp_same k610 dt6), dp_same hid_same dt2, by omega, lcs, los, by omega, hok, cpos, (fun x hx => (bos x hx).1), fun H11 k11 => ⟨_, rfl, ifF (by decide) ?_⟩⟩
          have k611 := k610.trans (Kp.same k11)
          refine ⟨_, rfl, _, rfl, _, rfl, (by show 3 ≤ sizeLine; decide), fun p2 np2 => ?_⟩
          have k12 : Same H11 (upd H11 p2 (.lst [.ref s, .ref p, .ref t])) := same_new np2
          refine ⟨p2, .list [houseD rooms ds, lotsD ls, .list (cs.map .int)], 4, _, rfl, .lst (.inl (.inl upd_same)) (.cons (dp_same k12 (dp_same hid_same (dp_same k611 dh6))) (.cons (dp_same k12 (dp_same hid_same (dL6.mono k611).dp)) (.cons (dp_same k12 (dp_same hid_same (dp_same k611 dt6))) .nil))), rp, by decide, by decide, ?_⟩
          refine ⟨_, rfl, rfl, _, rfl, ?_⟩
          rw [decide_eq_true rfl]
          refine ifF (by decide) ?_
          exact ⟨_, _, _, _, _, _, rfl, (B10.keep k11).keep k12⟩
    · rintro σ H2 ⟨x1, x2, x3, x4, x5, x6, rfl, B2⟩
      exact q H2
end
end Bd
namespace Bd
open PySem PySem.Spec PyProof.Rows L2 HT
theorem all_mk {P : Program} {w : World} {K : PySem.W.Frag} {h : Heap} {mg : Str → Option Value} {fa : Addr} (X : K.In h) (G : h.Ns mainGlobals mg) (hfa : mg "law" = some (.ref fa))
    {f0 : Addr} {od0 an0 : Option Addr} {sl0 : Array (Option Value)} {oc0 kV0 dc0 pm0 cd0 ct0 : Value} (a0 : PySem.W.nsIn K mainGlobals "met" = some (some (.ref f0)))
    (l0 : K.lookup f0 = some ⟨oc0, od0, .func (PySem.W.fnOf "met" "met" (defArgs sMet) (defBody sMet) (defScope sMet) .none kV0 dc0 pm0 an0 cd0 ct0), sl0⟩) (c0 : PySem.W.codeIn K cd0 "met" = true) (k0 : PySem.W.keepIn K (.ref f0) = true)
    {f1 : Addr} {od1 an1 : Option Addr} {sl1 : Array (Option Value)} {oc1 kV1 dc1 pm1 cd1 ct1 : Value} (a1 : PySem.W.nsIn K mainGlobals "leaving" = some (some (.ref f1)))
    (l1 : K.lookup f1 = some ⟨oc1, od1, .func (PySem.W.fnOf "leaving" "leaving" (defArgs sLeaving) (defBody sLeaving) (defScope sLeaving) .none kV1 dc1 pm1 an1 cd1 ct1), sl1⟩) (c1 : PySem.W.codeIn K cd1 "leaving" = true) (k1 : PySem.W.keepIn K (.ref f1) = true)
    {f2 : Addr} {od2 an2 : Option Addr} {sl2 : Array (Option Value)} {oc2 kV2 dc2 pm2 cd2 ct2 : Value} (a2 : PySem.W.nsIn K mainGlobals "parts" = some (some (.ref f2)))
    (l2 : K.lookup f2 = some ⟨oc2, od2, .func (PySem.W.fnOf "parts" "parts" (defArgs sParts) (defBody sParts) (defScope sParts) .none kV2 dc2 pm2 an2 cd2 ct2), sl2⟩) (c2 : PySem.W.codeIn K cd2 "parts" = true) (k2 : PySem.W.keepIn K (.ref f2) = true)
    {f3 : Addr} {od3 an3 : Option Addr} {sl3 : Array (Option Value)} {oc3 kV3 dc3 pm3 cd3 ct3 : Value} (a3 : PySem.W.nsIn K mainGlobals "_law_bag" = some (some (.ref f3)))
    (l3 : K.lookup f3 = some ⟨oc3, od3, .func (PySem.W.fnOf "_law_bag" "_law_bag" (defArgs sLawBag) (defBody sLawBag) (defScope sLawBag) .none kV3 dc3 pm3 an3 cd3 ct3), sl3⟩) (c3 : PySem.W.codeIn K cd3 "_law_bag" = true) (k3 : PySem.W.keepIn K (.ref f3) = true)
    {f4 : Addr} {od4 an4 : Option Addr} {sl4 : Array (Option Value)} {oc4 kV4 dc4 pm4 cd4 ct4 : Value} (a4 : PySem.W.nsIn K mainGlobals "_law_draw" = some (some (.ref f4)))
    (l4 : K.lookup f4 = some ⟨oc4, od4, .func (PySem.W.fnOf "_law_draw" "_law_draw" (defArgs sLawDraw) (defBody sLawDraw) (defScope sLawDraw) .none kV4 dc4 pm4 an4 cd4 ct4), sl4⟩) (c4 : PySem.W.codeIn K cd4 "_law_draw" = true) (k4 : PySem.W.keepIn K (.ref f4) = true)
    {f5 : Addr} {od5 an5 : Option Addr} {sl5 : Array (Option Value)} {oc5 kV5 dc5 pm5 cd5 ct5 : Value} (a5 : PySem.W.nsIn K mainGlobals "_law_ground" = some (some (.ref f5)))
    (l5 : K.lookup f5 = some ⟨oc5, od5, .func (PySem.W.fnOf "_law_ground" "_law_ground" (defArgs sLawGround) (defBody sLawGround) (defScope sLawGround) .none kV5 dc5 pm5 an5 cd5 ct5), sl5⟩) (c5 : PySem.W.codeIn K cd5 "_law_ground" = true) (k5 : PySem.W.keepIn K (.ref f5) = true)
    {f6 : Addr} {od6 an6 : Option Addr} {sl6 : Array (Option Value)} {oc6 kV6 dc6 pm6 cd6 ct6 : Value} (a6 : PySem.W.nsIn K mainGlobals "_law_tallies" = some (some (.ref f6)))
    (l6 : K.lookup f6 = some ⟨oc6, od6, .func (PySem.W.fnOf "_law_tallies" "_law_tallies" (defArgs sLawTallies) (defBody sLawTallies) (defScope sLawTallies) .none kV6 dc6 pm6 an6 cd6 ct6), sl6⟩) (c6 : PySem.W.codeIn K cd6 "_law_tallies" = true) (k6 : PySem.W.keepIn K (.ref f6) = true)
    {f7 : Addr} {od7 an7 : Option Addr} {sl7 : Array (Option Value)} {oc7 kV7 dc7 pm7 cd7 ct7 : Value} (a7 : PySem.W.nsIn K mainGlobals "_law_lots" = some (some (.ref f7)))
    (l7 : K.lookup f7 = some ⟨oc7, od7, .func (PySem.W.fnOf "_law_lots" "_law_lots" (defArgs sLawLots) (defBody sLawLots) (defScope sLawLots) .none kV7 dc7 pm7 an7 cd7 ct7), sl7⟩) (c7 : PySem.W.codeIn K cd7 "_law_lots" = true) (k7 : PySem.W.keepIn K (.ref f7) = true)
    {f8 : Addr} {od8 an8 : Option Addr} {sl8 : Array (Option Value)} {oc8 kV8 dc8 pm8 cd8 ct8 : Value} (a8 : PySem.W.nsIn K mainGlobals "_law_parts_right" = some (some (.ref f8)))
    (l8 : K.lookup f8 = some ⟨oc8, od8, .func (PySem.W.fnOf "_law_parts_right" "_law_parts_right" (defArgs sLawPartsRight) (defBody sLawPartsRight) (defScope sLawPartsRight) .none kV8 dc8 pm8 an8 cd8 ct8), sl8⟩) (c8 : PySem.W.codeIn K cd8 "_law_parts_right" = true) (k8 : PySem.W.keepIn K (.ref f8) = true)
    {f9 : Addr} {od9 an9 : Option Addr} {sl9 : Array (Option Value)} {oc9 kV9 dc9 pm9 cd9 ct9 : Value} (a9 : PySem.W.nsIn K mainGlobals "_law_two_right" = some (some (.ref f9)))
    (l9 : K.lookup f9 = some ⟨oc9, od9, .func (PySem.W.fnOf "_law_two_right" "_law_two_right" (defArgs sLawTwoRight) (defBody sLawTwoRight) (defScope sLawTwoRight) .none kV9 dc9 pm9 an9 cd9 ct9), sl9⟩) (c9 : PySem.W.codeIn K cd9 "_law_two_right" = true) (k9 : PySem.W.keepIn K (.ref f9) = true)
    {f10 : Addr} {od10 an10 : Option Addr} {sl10 : Array (Option Value)} {oc10 kV10 dc10 pm10 cd10 ct10 : Value} (a10 : PySem.W.nsIn K mainGlobals "_law_more_right" = some (some (.ref f10)))
    (l10 : K.lookup f10 = some ⟨oc10, od10, .func (PySem.W.fnOf "_law_more_right" "_law_more_right" (defArgs sLawMoreRight) (defBody sLawMoreRight) (defScope sLawMoreRight) .none kV10 dc10 pm10 an10 cd10 ct10), sl10⟩) (c10 : PySem.W.codeIn K cd10 "_law_more_right" = true) (k10 : PySem.W.keepIn K (.ref f10) = true)
    {f11 : Addr} {od11 an11 : Option Addr} {sl11 : Array (Option Value)} {oc11 kV11 dc11 pm11 cd11 ct11 : Value} (a11 : PySem.W.nsIn K mainGlobals "_law_gone" = some (some (.ref f11)))
    (l11 : K.lookup f11 = some ⟨oc11, od11, .func (PySem.W.fnOf "_law_gone" "_law_gone" (defArgs sLawGone) (defBody sLawGone) (defScope sLawGone) .none kV11 dc11 pm11 an11 cd11 ct11), sl11⟩) (c11 : PySem.W.codeIn K cd11 "_law_gone" = true) (k11 : PySem.W.keepIn K (.ref f11) = true)
    {f12 : Addr} {od12 an12 : Option Addr} {sl12 : Array (Option Value)} {oc12 kV12 dc12 pm12 cd12 ct12 : Value} (a12 : PySem.W.nsIn K mainGlobals "_law_goings_right" = some (some (.ref f12)))
    (l12 : K.lookup f12 = some ⟨oc12, od12, .func (PySem.W.fnOf "_law_goings_right" "_law_goings_right" (defArgs sLawGoingsRight) (defBody sLawGoingsRight) (defScope sLawGoingsRight) .none kV12 dc12 pm12 an12 cd12 ct12), sl12⟩) (c12 : PySem.W.codeIn K cd12 "_law_goings_right" = true) (k12 : PySem.W.keepIn K (.ref f12) = true)
    {f13 : Addr} {od13 an13 : Option Addr} {sl13 : Array (Option Value)} {oc13 kV13 dc13 pm13 cd13 ct13 : Value} (a13 : PySem.W.nsIn K mainGlobals "law" = some (some (.ref f13)))
    (l13 : K.lookup f13 = some ⟨oc13, od13, .func (PySem.W.fnOf "law" "law" (defArgs sLaw) (defBody sLaw) (defScope sLaw) .none kV13 dc13 pm13 an13 cd13 ct13), sl13⟩) (c13 : PySem.W.codeIn K cd13 "law" = true) (k13 : PySem.W.keepIn K (.ref f13) = true)
    (z_abs : PySem.W.nsIn K mainGlobals "abs" = some none)
    (z_len : PySem.W.nsIn K mainGlobals "len" = some none)
    (z_range : PySem.W.nsIn K mainGlobals "range" = some none)
    (z_int : PySem.W.nsIn K mainGlobals "int" = some none)
    (z_zip : PySem.W.nsIn K mainGlobals "zip" = some none)
    (z_sum : PySem.W.nsIn K mainGlobals "sum" = some none)
    (z_set : PySem.W.nsIn K mainGlobals "set" = some none)
    (z_sorted : PySem.W.nsIn K mainGlobals "sorted" = some none)
    (z_list : PySem.W.nsIn K mainGlobals "list" = some none)
    (z_repr : PySem.W.nsIn K mainGlobals "repr" = some none)
    : ∃ fd : FuncData, (∀ (s : Shared) (v : Value), BindsTo s fd ⟨[v], []⟩ [("script", v)]) ∧ ∀ base : Heap, K.In base → base.Ns mainGlobals mg → FnG P w K mg base 4 fa fd ["script"] (spLaw K) := by
  have e := hfa.symm.trans (PySem.W.mg_of X G a13)
  cases e
  have F_met := fun_mk (st := sMet) l0 c0 k0
  have b_met := F_met.binds (ps := ["house", "counts"]) fun _ _ _ _ _ _ us hl => match us, hl with | [_, _], _ => rfl
  have g_met := PySem.W.mg_of X G a0
  have F_leaving := fun_mk (st := sLeaving) l1 c1 k1
  have b_leaving := F_leaving.binds (ps := ["house", "counts", "lot"]) fun _ _ _ _ _ _ us hl => match us, hl with | [_, _, _], _ => rfl
  have g_leaving := PySem.W.mg_of X G a1
  have F_parts := fun_mk (st := sParts) l2 c2 k2
  have b_parts := F_parts.binds (ps := ["house", "counts"]) fun _ _ _ _ _ _ us hl => match us, hl with | [_, _], _ => rfl
  have g_parts := PySem.W.mg_of X G a2
  have F__law_bag := fun_mk (st := sLawBag) l3 c3 k3
  have b__law_bag := F__law_bag.binds (ps := ["script"]) fun _ _ _ _ _ _ us hl => match us, hl with | [_], _ => rfl
  have g__law_bag := PySem.W.mg_of X G a3
  have F__law_draw := fun_mk (st := sLawDraw) l4 c4 k4
  have b__law_draw := F__law_draw.binds (ps := ["bag", "many"]) fun _ _ _ _ _ _ us hl => match us, hl with | [_, _], _ => rfl
  have g__law_draw := PySem.W.mg_of X G a4
  have F__law_ground := fun_mk (st := sLawGround) l5 c5 k5
  have b__law_ground := F__law_ground.binds (ps := ["bag", "most", "wide"]) fun _ _ _ _ _ _ us hl => match us, hl with | [_, _, _], _ => rfl
  have g__law_ground := PySem.W.mg_of X G a5
  have F__law_tallies := fun_mk (st := sLawTallies) l6 c6 k6
  have b__law_tallies := F__law_tallies.binds (ps := ["bag", "doors"]) fun _ _ _ _ _ _ us hl => match us, hl with | [_, _], _ => rfl
  have g__law_tallies := PySem.W.mg_of X G a6
  have F__law_lots := fun_mk (st := sLawLots) l7 c7 k7
  have b__law_lots := F__law_lots.binds (ps := ["rooms"]) fun _ _ _ _ _ _ us hl => match us, hl with | [_], _ => rfl
  have g__law_lots := PySem.W.mg_of X G a7
  have F__law_parts_right := fun_mk (st := sLawPartsRight) l8 c8 k8
  have b__law_parts_right := F__law_parts_right.binds (ps := ["house", "tallies", "lots"]) fun _ _ _ _ _ _ us hl => match us, hl with | [_, _, _], _ => rfl
  have g__law_parts_right := PySem.W.mg_of X G a8
  have F__law_two_right := fun_mk (st := sLawTwoRight) l9 c9 k9
  have b__law_two_right := F__law_two_right.binds (ps := ["bag", "house", "tallies", "lots"]) fun _ _ _ _ _ _ us hl => match us, hl with | [_, _, _, _], _ => rfl
  have g__law_two_right := PySem.W.mg_of X G a9
  have F__law_more_right := fun_mk (st := sLawMoreRight) l10 c10 k10
  have b__law_more_right := F__law_more_right.binds (ps := ["house", "tallies", "others"]) fun _ _ _ _ _ _ us hl => match us, hl with | [_, _, _], _ => rfl
  have g__law_more_right := PySem.W.mg_of X G a10
  have F__law_gone := fun_mk (st := sLawGone) l11 c11 k11
  have b__law_gone := F__law_gone.binds (ps := ["bag", "house"]) fun _ _ _ _ _ _ us hl => match us, hl with | [_, _], _ => rfl
  have g__law_gone := PySem.W.mg_of X G a11
  have F__law_goings_right := fun_mk (st := sLawGoingsRight) l12 c12 k12
  have b__law_goings_right := F__law_goings_right.binds (ps := ["bag", "house", "lots"]) fun _ _ _ _ _ _ us hl => match us, hl with | [_, _, _], _ => rfl
  have g__law_goings_right := PySem.W.mg_of X G a12
  have F_law := fun_mk (st := sLaw) l13 c13 k13
  have b_law := F_law.binds (ps := ["script"]) fun _ _ _ _ _ _ us hl => match us, hl with | [_], _ => rfl
  have g_law := PySem.W.mg_of X G a13
  have m_abs := PySem.W.mg_none_of X G z_abs
  have m_len := PySem.W.mg_none_of X G z_len
  have m_range := PySem.W.mg_none_of X G z_range
  have m_int := PySem.W.mg_none_of X G z_int
  have m_zip := PySem.W.mg_none_of X G z_zip
  have m_sum := PySem.W.mg_none_of X G z_sum
  have m_set := PySem.W.mg_none_of X G z_set
  have m_sorted := PySem.W.mg_none_of X G z_sorted
  have m_list := PySem.W.mg_none_of X G z_list
  have m_repr := PySem.W.mg_none_of X G z_repr
  refine ⟨PySem.W.fnOf "law" "law" (defArgs sLaw) (defBody sLaw) (defScope sLaw) .none kV13 dc13 pm13 an13 cd13 ct13, fun s v => .of_eq rfl, fun base _ _ => ?_⟩
  have D1 : Ca P w K mg base 1 "_law_draw" spDraw := ⟨_, _, _, ok_draw F__law_draw m_len, g__law_draw, F__law_draw.kp, b__law_draw⟩
  have D2 : Ca P w K mg base 1 "_law_bag" (spBag K) := ⟨_, _, _, ok_bag F__law_bag m_abs, g__law_bag, F__law_bag.kp, b__law_bag⟩
  have D3 : Ca P w K mg base 2 "_law_ground" (spGround K) := ⟨_, _, _, ok_ground F__law_ground D1 m_len m_range m_int, g__law_ground, F__law_ground.kp, b__law_ground⟩
  have D4 : Ca P w K mg base 1 "parts" (spParts K) := ⟨_, _, _, ok_parts F_parts m_list m_range m_zip m_sorted m_set, g_parts, F_parts.kp, b_parts⟩
  have D5 : Ca P w K mg base 1 "leaving" (spLeave K) := ⟨_, _, _, ok_leaving F_leaving m_zip m_sum, g_leaving, F_leaving.kp, b_leaving⟩
  have D6 : Ca P w K mg base 1 "met" (spMet K) := ⟨_, _, _, ok_met F_met m_zip, g_met, F_met.kp, b_met⟩
  have D7 : Ca P w K mg base 2 "_law_tallies" (spTallies K) := ⟨_, _, _, ok_tallies F__law_tallies D1, g__law_tallies, F__law_tallies.kp, b__law_tallies⟩
  have D8 : Ca P w K mg base 1 "_law_lots" (spLots K) := ⟨_, _, _, ok_lots F__law_lots m_range, g__law_lots, F__law_lots.kp, b__law_lots⟩
  have D9 : Ca P w K mg base 2 "_law_parts_right" (spPartsRight K) := ⟨_, _, _, ok_parts_right F__law_parts_right D4 D5, g__law_parts_right, F__law_parts_right.kp, b__law_parts_right⟩
  have D10 : Ca P w K mg base 2 "_law_two_right" (spTwoRight K) := ⟨_, _, _, ok_two_right F__law_two_right D1 D5 m_len m_sorted m_set m_range m_int, g__law_two_right, F__law_two_right.kp, b__law_two_right⟩
  have D11 : Ca P w K mg base 2 "_law_more_right" (spMoreRight K) := ⟨_, _, _, ok_more_right F__law_more_right D4 m_len m_range, g__law_more_right, F__law_more_right.kp, b__law_more_right⟩
  have D12 : Ca P w K mg base 2 "_law_gone" (spGone K) := ⟨_, _, _, ok_gone F__law_gone D1 m_len m_range m_list m_int, g__law_gone, F__law_gone.kp, b__law_gone⟩
  have D13 : Ca P w K mg base 3 "_law_goings_right" (spGoingsRight K) := ⟨_, _, _, ok_goings_right F__law_goings_right D12 D4 D5 D6 m_sum m_abs m_range, g__law_goings_right, F__law_goings_right.kp, b__law_goings_right⟩
  exact ok_law F_law D2 D1 D3 D8 D7 D9 D13 D10 D11 m_range m_repr
theorem theWalk {l : PySem.W.OpenLaw} {q : Program} {loose : List Str} {XP : (Str → Option Value) → Heap → Prop} {YP : World → Heap → Prop} {d : DefRec} {K : Params → PySem.W.Frag} (hn : l.most = some 63) (hdf : d.params.defaults = [])
    (hY : ∀ (w : World) (h : Heap), YP w h → (K w.params).In h)
    (F : ∀ (w : World) (mg : Str → Option Value) (fa : Addr) (h : Heap), (K w.params).In h → h.Ns mainGlobals mg → mg d.name = some (.ref fa) →
      ∃ fd : FuncData, (∀ (s : Shared) (u : Value), BindsTo s fd ⟨[u], []⟩ [("script", u)]) ∧ ∀ base : Heap, (K w.params).In base → base.Ns mainGlobals mg → FnG l.prog w (K w.params) mg base 4 fa fd ["script"] (spLaw (K w.params))) :
    PySem.W.WalkO q loose XP YP l.row.toRowW d [] (fun f vs => PySem.call f vs) :=
  walkG hn hdf ⟨rfl, by decide, by decide⟩ hY F fun _ _ a ns hl hS => ⟨a, ns, rfl, hS, hl, fun _ => rfl⟩
end Bd
open PySem PySem.W PyProof.Rows
set_option maxRecDepth 100000 in
set_option maxHeartbeats 0 in
theorem PySem.Challenge.cw_bothdoors_k05_whole_lots_that_nothing_le_holds : PySem.Challenge.rw_bothdoors_k05_whole_lots_that_nothing_le.Holds := by
  w_on; o_law; k_head; (case hw => w_witness2)
  k_fill
  refine Bd.theWalk (l := PySem.Challenge.rw_bothdoors_k05_whole_lots_that_nothing_le) rfl rfl (fun w h Y => PySem.W.kIn_of Y) ?F
  case F =>
    intro w mg fa h KX G hmg
    refine' Bd.all_mk KX G hmg ?a0 ?l0 ?c0 ?k0 ?a1 ?l1 ?c1 ?k1 ?a2 ?l2 ?c2 ?k2 ?a3 ?l3 ?c3 ?k3 ?a4 ?l4 ?c4 ?k4 ?a5 ?l5 ?c5 ?k5 ?a6 ?l6 ?c6 ?k6 ?a7 ?l7 ?c7 ?k7 ?a8 ?l8 ?c8 ?k8 ?a9 ?l9 ?c9 ?k9 ?a10 ?l10 ?c10 ?k10 ?a11 ?l11 ?c11 ?k11 ?a12 ?l12 ?c12 ?k12 ?a13 ?l13 ?c13 ?k13 ?zabs ?zlen ?zrange ?zint ?zzip ?zsum ?zset ?zsorted ?zlist ?zrepr
    (case a0 => k_is); (case l0 => k_is); (case c0 => k_is); (case k0 => k_is)
    (case a1 => k_is); (case l1 => k_is); (case c1 => k_is); (case k1 => k_is)
    (case a2 => k_is); (case l2 => k_is); (case c2 => k_is); (case k2 => k_is)
    (case a3 => k_is); (case l3 => k_is); (case c3 => k_is); (case k3 => k_is)
    (case a4 => k_is); (case l4 => k_is); (case c4 => k_is); (case k4 => k_is)
    (case a5 => k_is); (case l5 => k_is); (case c5 => k_is); (case k5 => k_is)
    (case a6 => k_is); (case l6 => k_is); (case c6 => k_is); (case k6 => k_is)
    (case a7 => k_is); (case l7 => k_is); (case c7 => k_is); (case k7 => k_is)
    (case a8 => k_is); (case l8 => k_is); (case c8 => k_is); (case k8 => k_is)
    (case a9 => k_is); (case l9 => k_is); (case c9 => k_is); (case k9 => k_is)
    (case a10 => k_is); (case l10 => k_is); (case c10 => k_is); (case k10 => k_is)
    (case a11 => k_is); (case l11 => k_is); (case c11 => k_is); (case k11 => k_is)
    (case a12 => k_is); (case l12 => k_is); (case c12 => k_is); (case k12 => k_is)
    (case a13 => k_is); (case l13 => k_is); (case c13 => k_is); (case k13 => k_is)
    (case zabs => k_is)
    (case zlen => k_is)
    (case zrange => k_is)
    (case zint => k_is)
    (case zzip => k_is)
    (case zsum => k_is)
    (case zset => k_is)
    (case zsorted => k_is)
    (case zlist => k_is)
    (case zrepr => k_is)
