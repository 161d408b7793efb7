import PyProof.Rows.All
import Wide.All
import OpenK.AllK
import Wide.FinOn
import HandS.ForMost
import HandS.Style
import HandS.IsInst
import HandS.More
import HandS.Evl
import HandS.Zip
import HandS.Walk
import HandS.SetFor
import HandS.Defaults
import HandS.ForExc
import HandS.CallSlots
import KE.KExcSuper
import HandS.ExcInit
import HandS.Nested
import HandS.ExcField
import HandS.ExcIs
import HandS.TryMany
import HandS.TryOnly
import HandS.ExcOwn
import HandS.WordsExc
import KE.KExcIs
import HandS.Comp
import KE.GoesComp2
import HandS.SlotsOwn
import HandS.OwnIter
import HandS.IterNext
import HandS.ClsMeth
import HandS.Deep
import HandS.Exc
import HandS.ExcCtx
import HandS.HotCalls
import HandS.TupAny
import HandS.RaiseMore
import HandS.Star
import HandS.MakeKwOnly
import HandS.FStr
import PyProof.Rows.RegStrFacts
import HandS.Conv
import HandS.Text
import PySem.Challenge.RW_coretower_k25_first_spoilt_step
import KE.RegKSuper
set_option Elab.async false
set_option linter.all false
set_option maxRecDepth 100000
set_option maxHeartbeats 4000000
/-! ### small things over the layer: frames, loops, tests -/
namespace My
open PySem L2
section
variable {P : Program} {w : World} {K : PySem.W.Frag} {mg : Str → Option Value} {base : Heap}
/-- a def of the text, where it stands -/
structure Df (K : PySem.W.Frag) (mg : Str → Option Value) (x : Str) (st : Stmt) (ps : List Str) (f : Addr) (fd : FuncData) : Prop where
  F : Fun K x x st f fd
  g : mg x = some (.ref f)
  b : Binds K fd ps []
theorem cxK {CX : CXT} {N : List Str} {q : Str} {sc : Scope} {f : Addr} {cdv : Value} {A : Around} {outer : List Env} {s : Shared} {H : Hp} {E : XK} : (cxOf CX P w K mg base N q sc f cdv A outer s H E).K = K := rfl
theorem cxnK {CX : CXT} {N : List Str} {q : Str} {sc : Scope} {f : Addr} {cdv : Value} {A : Around} {outer : List Env} {s : Shared} {H : Hp} {E : XK} : (cxOf CX P w K mg base N q sc f cdv A outer s H E).nox.K = K := rfl
end
/-! ### frames -/
/-- what stood outside of S stands as it did -/
def Kp (S : List Addr) (H H' : Hp) : Prop := ∀ b o, b ∉ S → H b = some o → H' b = some o
theorem Kp.refl (S : List Addr) (H : Hp) : Kp S H H := fun _ _ _ h => h
theorem Kp.trans {S : List Addr} {H H1 H2 : Hp} (a : Kp S H H1) (b : Kp S H1 H2) : Kp S H H2 := fun c o hc h => b c o hc (a c o hc h)
theorem Kp.mono {S T : List Addr} {H H' : Hp} (a : Kp S H H') (h : ∀ x ∈ S, x ∈ T) : Kp T H H' := fun c o hc e => a c o (fun z => hc (h c z)) e
theorem Kp.of0 {T : List Addr} {H H' : Hp} (a : Kp [] H H') : Kp T H H' := a.mono fun x hx => nomatch hx
theorem Kp.new {S : List Addr} {H : Hp} {p : Addr} {o : HO} (h : H p = none) : Kp S H (upd H p o) := fun a u _ e => by
  rw [upd_ne (ne_of_none e h)]
  exact e
/-- a write to something that was not there at the beginning -/
theorem Kp.wr {S : List Addr} {H H' : Hp} {p : Addr} {o : HO} (a : Kp S H H') (h : H p = none) : Kp S H (upd H' p o) := fun b u hb e => by
  rw [upd_ne (ne_of_none e h)]
  exact a b u hb e
theorem Kp.put {S : List Addr} {H H' : Hp} {p : Addr} {o : HO} (a : Kp S H H') (h : p ∈ S) : Kp S H (upd H' p o) := fun b u hb e => by
  rw [upd_ne (fun z => hb (by rw [z]; exact h))]
  exact a b u hb e
theorem Kp.ls {S : List Addr} {K : PySem.W.Frag} {H H' : Hp} {a : Addr} {xs : List V} (k : Kp S H H') (ha : a ∉ S) (h : SqL K H a xs) : SqL K H' a xs := by
  rcases h with (h | ⟨o, h⟩) | h
  · exact .inl (.inl (k _ _ ha h))
  · exact .inl (.inr ⟨o, k _ _ ha h⟩)
  · exact .inr h
theorem Kp.tp {S : List Addr} {K : PySem.W.Frag} {H H' : Hp} {a : Addr} {xs : List V} (k : Kp S H H') (ha : a ∉ S) (h : SqT K H a xs) : SqT K H' a xs := by
  rcases h with (h | ⟨o, h⟩) | h
  · exact .inl (.inl (k _ _ ha h))
  · exact .inl (.inr ⟨o, k _ _ ha h⟩)
  · exact .inr h
theorem Kp.free {S : List Addr} {H H' : Hp} {p : Addr} (k : Kp S H H') (hp : H' p = none) (hs : ∀ a ∈ S, ∃ o, H' a = some o) : H p = none := by
  cases e : H p with
  | none => rfl
  | some o =>
    by_cases h : p ∈ S
    · obtain ⟨u, hu⟩ := hs p h
      rw [hp] at hu; cases hu
    · rw [k p o h e] at hp; cases hp
theorem Kp.free0 {H H' : Hp} {p : Addr} (k : Kp [] H H') (hp : H' p = none) : H p = none := k.free hp fun a h => nomatch h
theorem not1 {a b : Addr} (h : b ≠ a) : b ∉ [a] := fun z => h (List.mem_singleton.mp z)
theorem not0 {b : Addr} : b ∉ ([] : List Addr) := fun z => nomatch z
theorem sq_l {K : PySem.W.Frag} {H : Hp} {a : Addr} {xs : List V} (h : H a = some (.lst xs)) : SqL K H a xs := .inl (.inl h)
theorem sq_t {K : PySem.W.Frag} {H : Hp} {a : Addr} {xs : List V} (h : H a = some (.tup xs)) : SqT K H a xs := .inl (.inl h)
theorem small {n : Nat} (h : n ≤ 100000) : n ≤ sizeLine := Nat.le_trans h (by decide)
theorem smallL {n : Nat} (h : n ≤ 100000) : n < sizeLine := Nat.lt_of_le_of_lt h (by decide)
theorem ne_kind {H : Hp} {a b : Addr} {o u : HO} (h : H a = some o) (h' : H b = some u) (d : o ≠ u) : a ≠ b := ne_of h h' d
/-! ### subscripts -/
theorem atI_of {α : Type} {xs : List α} {i : Int} {v : α} (h0 : 0 ≤ i) (h : xs[i.toNat]? = some v) : atI xs i = some v := by
  have e := atI_nat h
  rwa [Int.toNat_of_nonneg h0] at e
theorem ixN_of {n : Nat} {i : Int} (h0 : 0 ≤ i) (h : i < n) : ixN n i = some i.toNat := by
  unfold ixN
  rw [if_pos h0, if_pos h]
theorem atI_ex {α : Type} {xs : List α} {i : Int} (h0 : 0 ≤ i) (h : i < xs.length) : ∃ v, v ∈ xs ∧ atI xs i = some v := by
  have hl : i.toNat < xs.length := by omega
  exact ⟨xs[i.toNat], List.getElem_mem hl, atI_of h0 (List.getElem?_eq_getElem hl)⟩
/-! ### isinstance -/
section
variable {K : PySem.W.Frag} {H : Hp} {Q : VK}
theorem isi_mk {x : V} {n m : String} {b : Bool} (h : TyOf K H x (.type n)) (k : kitB n m = some b) (q : Q (.bl b) H) : rIsi K [x, .ty m] H Q := ⟨x, _, _, _, b, rfl, .ty m, .base h, kit_ty k, q⟩
theorem isi_int_str {i : Int} (q : Q (.bl false) H) : rIsi K [.int i, .ty "str"] H Q := isi_mk (.int i) (by decide +kernel) q
theorem isi_str_str {i : Str} (q : Q (.bl true) H) : rIsi K [.str i, .ty "str"] H Q := isi_mk (.str i) (by decide +kernel) q
theorem isi_int_int {i : Int} (q : Q (.bl true) H) : rIsi K [.int i, .ty "int"] H Q := isi_mk (.int i) (by decide +kernel) q
theorem isi_int_bool {i : Int} (q : Q (.bl false) H) : rIsi K [.int i, .ty "bool"] H Q := isi_mk (.int i) (by decide +kernel) q
theorem isi_bl_bool {i : Bool} (q : Q (.bl true) H) : rIsi K [.bl i, .ty "bool"] H Q := isi_mk (.bl i) (by decide +kernel) q
end
theorem sc_ii {i j : Int} : scal (.int i) (.int j) = true := rfl
theorem sc_ss {i j : Str} : scal (.str i) (.str j) = true := rfl
theorem sc_bb {i j : Bool} : scal (.bl i) (.bl j) = true := rfl
theorem sc_ni {j : Int} : scal .non (.int j) = true := rfl
theorem sc_in {j : Int} : scal (.int j) .non = true := rfl
theorem sc_is {i : Int} {j : Str} : scal (.int i) (.str j) = true := rfl
theorem sc_si {i : Int} {j : Str} : scal (.str j) (.int i) = true := rfl
theorem sc_nn : scal .non .non = true := rfl
/-! ### loops -/
section
variable {K : PySem.W.Frag} {g : TG} {tb : TS} {D : Ends} {σ : St} {H : Hp}
theorem forL {a : Addr} {xs : List V} {i : Nat} (Pv : Nat → L2.St → Hp → Prop) (hσ : σ[i]? = some (some (.ref a))) (hS : SqL K H a xs) (h0 : Pv 0 σ H) (hl : ∀ j σ H, j ≤ xs.length → Pv j σ H → SqL K H a xs)
    (hs : ∀ j x σ H, xs[j]? = some x → Pv j σ H → g x σ H fun σ2 H2 => tb { D with nx := Pv (j + 1), ct := Pv (j + 1), bk := D.nx } σ2 H2) (hd : ∀ σ H, Pv xs.length σ H → D.nx σ H) : tFor (iList K (tVar i)) g tb D σ H :=
  ⟨_, hσ, a, rfl, ⟨xs, hS⟩, for_list Pv h0 hl hs hd⟩
theorem forT {a : Addr} {xs : List V} {i : Nat} (Pv : Nat → L2.St → Hp → Prop) (hσ : σ[i]? = some (some (.ref a))) (hS : SqT K H a xs) (h0 : Pv 0 σ H) (hl : ∀ j σ H, j ≤ xs.length → Pv j σ H → SqT K H a xs)
    (hs : ∀ j x σ H, xs[j]? = some x → Pv j σ H → g x σ H fun σ2 H2 => tb { D with nx := Pv (j + 1), ct := Pv (j + 1), bk := D.nx } σ2 H2) (hd : ∀ σ H, Pv xs.length σ H → D.nx σ H) : tFor (iTup K (tVar i)) g tb D σ H :=
  ⟨_, hσ, a, rfl, ⟨xs, hS⟩, for_tup Pv h0 hl hs hd⟩
/-- behind the reckoning of the bound: range(m) -/
theorem forR {ta : TA} {Qx : Hp → Int → Prop} (h : ta σ H fun vs H1 => ∃ m : Int, vs = [.int m] ∧ -(2 ^ 62) ≤ m ∧ m < 2 ^ 62 ∧ ∃ Pv : Nat → L2.St → Hp → Prop, Pv 0 σ H1 ∧
    (∀ j σ H, j < m.toNat → Pv j σ H → g (.int (0 + j)) σ H fun σ2 H2 => tb { D with nx := Pv (j + 1), ct := Pv (j + 1), bk := D.nx } σ2 H2) ∧ (∀ σ H, Pv m.toNat σ H → D.nx σ H))
    (mono : ∀ Q Q' : List V → Hp → Prop, (∀ vs H, Q vs H → Q' vs H) → ta σ H Q → ta σ H Q') : tFor (iRng1 ta) g tb D σ H := by
  refine mono _ _ ?_ h
  rintro vs H1 ⟨m, e, h1, h2, Pv, a, b, c⟩
  exact ⟨m, e, h1, h2, for_range Pv a b c⟩
end
/-! ### dicts -/
section
variable {κ : Type} [DecidableEq κ]
theorem keys_putK (kvs : List (κ × V)) (k : κ) (v : V) (h : (kvs.map (·.1)).Nodup) : ((putK kvs k v).map (·.1)).Nodup := by
  cases e : valV kvs k with
  | none => exact nd_putK v h e
  | some y =>
    have ha : (kvs.any fun kv => decide (kv.1 = k)) = true := by
      unfold valV at e
      cases q : kvs.find? fun kv => decide (kv.1 = k) with
      | none => rw [q] at e; cases e
      | some p => exact List.any_eq_true.mpr ⟨p, List.mem_of_find?_eq_some q, by simpa using List.find?_some q⟩
    unfold putK
    rw [if_pos ha, List.map_map]
    have e2 : ((fun kv : κ × V => kv.1) ∘ fun kv : κ × V => if kv.1 = k then (kv.1, v) else kv) = fun kv => kv.1 := by
      funext p
      show (if p.1 = k then (p.1, v) else p).1 = p.1
      split <;> rfl
    rw [e2]
    exact h
theorem mem_putK {kvs : List (κ × V)} {k : κ} {v : V} {p : κ × V} (h : p ∈ putK kvs k v) : p ∈ kvs ∨ p = (k, v) := by
  unfold putK at h
  split at h
  · obtain ⟨q, hq, e⟩ := List.mem_map.mp h
    split at e
    · rename_i hk
      exact .inr (by rw [← e, hk])
    · exact .inl (by rw [← e]; exact hq)
  · rcases List.mem_append.mp h with h | h
    · exact .inl h
    · exact .inr (List.mem_singleton.mp h)
theorem valV_mem {kvs : List (κ × V)} {k : κ} {v : V} (h : (kvs.map (·.1)).Nodup) (hm : (k, v) ∈ kvs) : valV kvs k = some v := by
  induction kvs with
  | nil => nomatch hm
  | cons p r ih =>
    rw [List.map_cons, List.nodup_cons] at h
    by_cases e : p.1 = k
    · rw [valV_pos e]
      rcases List.mem_cons.mp hm with z | z
      · rw [← z]
      · exact absurd (List.mem_map.mpr ⟨_, z, rfl⟩) (by rw [← e]; exact h.1)
    · rw [valV_neg e]
      rcases List.mem_cons.mp hm with z | z
      · exact absurd (by rw [← z]) e
      · exact ih h.2 z
end
end My

set_option Elab.async false
set_option linter.all false
set_option maxRecDepth 100000
set_option maxHeartbeats 4000000
namespace My
open PySem L2
/-! ### data that stands in tracked tuples and lists -/
mutual
inductive Dq (H : Hp) : V → PyData → Prop
  | non : Dq H .non .none
  | bl (b : Bool) : Dq H (.bl b) (.bool b)
  | int (i : Int) : Dq H (.int i) (.int i)
  | str (x : Str) : Dq H (.str x) (.str x)
  | lst {a : Addr} {xs : List V} {ds : List PyData} : H a = some (.lst xs) → DqAll H xs ds → Dq H (.ref a) (.list ds)
  | tup {a : Addr} {xs : List V} {ds : List PyData} : H a = some (.tup xs) → DqAll H xs ds → Dq H (.ref a) (.tuple ds)
inductive DqAll (H : Hp) : List V → List PyData → Prop
  | nil : DqAll H [] []
  | cons {v : V} {vs : List V} {d : PyData} {ds : List PyData} : Dq H v d → DqAll H vs ds → DqAll H (v :: vs) (d :: ds)
end
mutual
theorem Dq.kp {H H' : Hp} (k : Kp [] H H') : ∀ {d : PyData} {v : V}, Dq H v d → Dq H' v d
  | _, _, .non => .non
  | _, _, .bl b => .bl b
  | _, _, .int i => .int i
  | _, _, .str x => .str x
  | _, _, .lst e h => .lst (k _ _ not0 e) (DqAll.kp k h)
  | _, _, .tup e h => .tup (k _ _ not0 e) (DqAll.kp k h)
theorem DqAll.kp {H H' : Hp} (k : Kp [] H H') : ∀ {ds : List PyData} {vs : List V}, DqAll H vs ds → DqAll H' vs ds
  | _, _, .nil => .nil
  | _, _, .cons h t => .cons (Dq.kp k h) (DqAll.kp k t)
end
mutual
theorem Dq.dp {K : PySem.W.Frag} {H : Hp} : ∀ {d : PyData} {v : V}, Dq H v d → Dp K H v d
  | _, _, .non => .non
  | _, _, .bl b => .bl b
  | _, _, .int i => .int i
  | _, _, .str x => .str x
  | _, _, .lst e h => .lst (sq_l e) (DqAll.dp h)
  | _, _, .tup e h => .tup (sq_t e) (DqAll.dp h)
theorem DqAll.dp {K : PySem.W.Frag} {H : Hp} : ∀ {ds : List PyData} {vs : List V}, DqAll H vs ds → DpAll K H vs ds
  | _, _, .nil => .nil
  | _, _, .cons h t => .cons (Dq.dp h) (DqAll.dp t)
end
theorem DqAll.len {H : Hp} : ∀ {ds : List PyData} {vs : List V}, DqAll H vs ds → vs.length = ds.length
  | _, _, .nil => rfl
  | _, _, .cons h t => by rw [List.length_cons, List.length_cons, t.len]
theorem DqAll.get {H : Hp} : ∀ {ds : List PyData} {vs : List V}, DqAll H vs ds → ∀ {i : Nat} {v : V}, vs[i]? = some v → ∃ d, ds[i]? = some d ∧ Dq H v d
  | _, _, .nil, _, _, e => nomatch e
  | _, _, .cons h t, 0, _, e => by cases e; exact ⟨_, rfl, h⟩
  | _, _, .cons h t, i + 1, _, e => t.get (i := i) e
/-- its class -/
def tyD : PyData → String
  | .none => "NoneType"
  | .bool _ => "bool"
  | .int _ => "int"
  | .str _ => "str"
  | .list _ => "list"
  | .tuple _ => "tuple"
  | _ => "object"
theorem Dq.ty {K : PySem.W.Frag} {H : Hp} {v : V} {d : PyData} (h : Dq H v d) : TyOf K H v (.type (tyD d)) := by
  cases h with
  | non => exact .non
  | bl b => exact .bl b
  | int i => exact .int i
  | str x => exact .str x
  | lst e h => exact .lst e
  | tup e h => exact .tup e
def six (d : PyData) : Prop := match d with
  | .none | .bool _ | .int _ | .str _ | .list _ | .tuple _ => True
  | _ => False
theorem Dq.six {H : Hp} {v : V} {d : PyData} (h : Dq H v d) : six d := by
  cases h <;> exact True.intro
def isStrD : PyData → Bool | .str _ => true | _ => false
def isTupD : PyData → Bool | .tuple _ => true | _ => false
def isLstD : PyData → Bool | .list _ => true | _ => false
def isIntD : PyData → Bool | .int _ | .bool _ => true | _ => false
def isBoolD : PyData → Bool | .bool _ => true | _ => false
section
variable {K : PySem.W.Frag} {H : Hp} {Q : VK} {v : V} {d : PyData}
theorem isi_D (h : Dq H v d) {m : String} {b : Bool} (k : kitB (tyD d) m = some b) (q : Q (.bl b) H) : rIsi K [v, .ty m] H Q := isi_mk h.ty k q
theorem isi_Dstr (h : Dq H v d) (q : Q (.bl (isStrD d)) H) : rIsi K [v, .ty "str"] H Q := isi_D h (by cases h <;> simp only [tyD, isStrD, isTupD, isLstD, isIntD, isBoolD] <;> decide +kernel) q
theorem isi_Dtup (h : Dq H v d) (q : Q (.bl (isTupD d)) H) : rIsi K [v, .ty "tuple"] H Q := isi_D h (by cases h <;> simp only [tyD, isStrD, isTupD, isLstD, isIntD, isBoolD] <;> decide +kernel) q
theorem isi_Dlst (h : Dq H v d) (q : Q (.bl (isLstD d)) H) : rIsi K [v, .ty "list"] H Q := isi_D h (by cases h <;> simp only [tyD, isStrD, isTupD, isLstD, isIntD, isBoolD] <;> decide +kernel) q
theorem isi_Dint (h : Dq H v d) (q : Q (.bl (isIntD d)) H) : rIsi K [v, .ty "int"] H Q := isi_D h (by cases h <;> simp only [tyD, isStrD, isTupD, isLstD, isIntD, isBoolD] <;> decide +kernel) q
theorem isi_Dbool (h : Dq H v d) (q : Q (.bl (isBoolD d)) H) : rIsi K [v, .ty "bool"] H Q := isi_D h (by cases h <;> simp only [tyD, isStrD, isTupD, isLstD, isIntD, isBoolD] <;> decide +kernel) q
end
/-! ### xs.remove(text) -/
def eqs (z : Str) (v : Value) : Bool := match v with
  | .str y _ => y == z
  | _ => false
theorem str_beq' (w z : Str) : (w == z) = (w.cps.toList == z.cps.toList) := by
  rw [Bool.eq_iff_iff, beq_iff_eq, beq_iff_eq]
  constructor
  · rintro rfl; rfl
  · intro h
    obtain ⟨a⟩ := w
    obtain ⟨b⟩ := z
    obtain ⟨a⟩ := a
    obtain ⟨b⟩ := b
    have h' : a = b := h
    rw [h']
def rRemS : V → List V → Hp → VK → Prop := fun x xs H Q => ∃ (l : Addr) (zs : List Str) (z : Str) (j : Nat), x = .ref l ∧ xs = [.str z] ∧ H l = some (.lst (zs.map V.str)) ∧ zs[j]? = some z ∧ (∀ m : Nat, m < j → zs[m]? ≠ some z) ∧ Q .non (upd H l (.lst ((zs.eraseIdx j).map V.str)))
theorem vals_str : ∀ {zs : List Str} {us : List Value}, Vals (zs.map V.str) us → ∀ {i : Nat} {u : Value}, us[i]? = some u → ∃ y t, u = .str y t ∧ zs[i]? = some y
  | [], _, r, _, _, e => by cases r; cases e
  | z :: zs, us, r, i, u, e => by
    rw [List.map_cons] at r
    cases r with
    | cons r0 rt =>
      match i, e with
      | 0, e =>
        cases e
        obtain ⟨t, rfl⟩ := r0
        exact ⟨z, t, rfl, rfl⟩
      | i + 1, e => exact vals_str rt (i := i) e
theorem erase_mapS : ∀ (l : List Str) (j : Nat), (l.map V.str).eraseIdx j = (l.eraseIdx j).map V.str
  | [], j => by simp
  | _ :: _, 0 => by simp
  | _ :: r, j + 1 => by simp [erase_mapS r j]
theorem eqs_ok (w z : Str) (tw t : Tok) : MeetsSeq.EqGives (.str w tw) (.str z t) (eqs z (.str w tw)) := by
  have e : eqs z (.str w tw) = (w.cps.toList == z.cps.toList) := (str_beq' w z)
  rw [e]
  exact SeqRoads2.EqGives.str w z tw t
theorem mt_removeS {X : Cx} : MtM X "list.remove" rRemS := by
  intro pins s σ H x xs v us Q I rx rxs h
  obtain ⟨l, zs, z, j, rfl, rfl, hH, hj, hno, q⟩ := h
  cases rx
  obtain ⟨u, rfl, ru⟩ := rxs.one
  obtain ⟨t, rfl⟩ := ru
  obtain ⟨hz, its, n, r, hl, e⟩ := I.lstM hH
  rw [List.length_map] at hl hz
  have hjn : j < zs.length := (List.getElem?_eq_some_iff.mp hj).1
  have hjl : j < its.toArray.size := by rw [List.size_toArray]; omega
  have each : ∀ y, y ∈ its.toArray → MeetsSeq.EqGives y (.str z t) (eqs z y) := fun y hy => by
    obtain ⟨i, hi, e1⟩ := List.mem_iff_getElem.mp (show y ∈ its by simpa using hy)
    obtain ⟨w, tw, rfl, _⟩ := vals_str r (i := i) (by rw [List.getElem?_eq_getElem hi, e1])
    exact eqs_ok w z tw t
  have at_ : ∀ m (hm : m < its.toArray.size), ∃ t', its.toArray[m] = .str (zs[m]'(by rw [List.size_toArray] at hm; omega)) t' := fun m hm => by
    have hm' : m < its.length := by simpa using hm
    obtain ⟨w, tw, ew, ez⟩ := vals_str r (i := m) (List.getElem?_eq_getElem hm')
    have hmz : m < zs.length := by omega
    rw [List.getElem?_eq_getElem hmz] at ez
    exact ⟨tw, by rw [Option.some.inj ez]; simpa using ew⟩
  refine call_meets PySem.F.slot_list_remove ⟨_, e, rfl⟩ PySem.F.entry_list_remove (PySem.F.args_list_remove_2 _ _) (MeetsSeq.list_remove l its.toArray n (.str z t) (eqs z) each j hjl ?_ ?_ (by rw [List.size_toArray]; omega)) ⟨e, ?_⟩
  · obtain ⟨t', et⟩ := at_ j hjl
    rw [List.getElem?_eq_getElem hjn] at hj
    rw [et, Option.some.inj hj]
    exact beq_self_eq_true z
  · intro m hm hmj
    obtain ⟨t', et⟩ := at_ m hm
    rw [et]
    refine beq_eq_false_iff_ne.mpr fun e2 => hno m hmj ?_
    rw [← e2]
    exact List.getElem?_eq_getElem _
  · have rr := r.eraseIdx j
    rw [erase_mapS] at rr
    refine ⟨.non, _, I.lset (its' := its.eraseIdx j) (t' := s.toks) hH e ?_ rr ?_, rfl, q⟩
    · show its.toArray.eraseIdxIfInBounds j = (its.eraseIdx j).toArray
      rw [List.eraseIdxIfInBounds_toArray]
    · have := List.length_eraseIdx_le zs j
      rw [List.length_map]
      omega
/-! ### repr of data, nothing being shown -/
def rReprD (K : PySem.W.Frag) : List V → Hp → VK → Prop := fun xs H Q => ∃ (a : Addr) (d : PyData), xs = [.ref a] ∧ Dp K H (.ref a) d ∧ d.showable = true ∧ d.hasDict = false ∧ d.depth ≤ 60 ∧ d.shown.length ≤ sizeLine ∧ Q (.str d.shown) H
theorem call_reprD {X : Cx} (gd : X.A.guards = some [] ∧ X.A.units + 64 < cLine) : CallR X (.builtin "repr") (rReprD X.K) := by
  intro pins s σ H xs us Q I r h
  obtain ⟨a, d, rfl, hd, hs, hn, hp, hz, q⟩ := h
  obtain ⟨u, rfl, ru⟩ := vals1 r
  obtain ⟨as, rd⟩ := Dp.reads I d (.ref a) u hd ru
  cases (show u = Value.ref a from ru)
  refine repr_of_reads' rd hs (PyData.noDict_hsm hn) gd.1 (by omega) (fun _ _ e => e) (fun h' t tk hk => ⟨.str _, H, I.kept (t' := tk) hk, ⟨_, rfl⟩, q⟩) hz
/-! ### an own class made where what is raised is wished for at the slots -/
def tMakeS (C : Addr) (sp : Sp) (dvs : List V) (E : L2.St → XK) (t : TA) : TE := fun σ H Q => t σ H fun vs H1 => ∀ o d, H1 o = none → H1 d = none → d ≠ o → sp (.ref o :: (vs ++ dvs)) (upd (upd H1 d (.own o)) o (.ins C d [])) (fun v H2 => v = .non ∧ Q (.ref o) H2) (E σ)
section
variable {X : Cx} {CX : CXT} {k : Nat} {f C : Addr} {fd : FuncData} {ps : List Str} {sp : Sp} {dvs : List V} {ds : List Value} {E : L2.St → XK} {x : Str} {p pos : Pos} {e : Expr} {es : List Expr} {t : TA}
theorem pe_makeS (M : Mk X.K C f) (F : FnOk X.prog X.w X.K X.mg X.base CX k f fd ps sp) (hr : Room (k + 1) X.A) (hg : Gl X x) (hm : X.mg x = some (.ref C)) (hb : Binds X.K fd ps ds) (hd : Vals dvs ds) (hx : ∀ σ, PassesAt CX X σ (E σ)) (ha : PA X (e :: es) t)
    (hdb : (x == ("__debug__" : Str)) = false := by decide) (he : starEach (e :: es) X.env = (false, eval e X.env) :: starEach es X.env := by rfl) (hpl : (backTo pos (starEach es X.env)).any (·.1) = false := by rfl) :
    PE X (.Call (.Name x p) (e :: es) [] pos) (tMakeS C sp dvs E t) := by
  refine ⟨fun pins s σ H Q I h => wpAny_Call_Name_kw (ld_glob I hg hm ?_ hdb)⟩
  refine PySem.W.callWith_K (h₀ := X.base) I.ok.mod.kin M.kp (thn (ha.run pos pins s σ H _ I h) fun us s1 ⟨vs, H1, I1, r, q⟩ => ⟨I1.kIn, ?_⟩) he hpl
  have g0 : H1 (s1.heap.objs.size + 1) = none := I1.hok.fresh (Nat.le_succ _)
  have g1 : H1 s1.heap.objs.size = none := I1.hok.fresh (Nat.le_refl _)
  have todo := q _ _ g0 g1 (Nat.ne_of_lt (Nat.lt_succ_self _))
  have J := Inv.made (C := C) I1
  have rr : Vals (V.ref (s1.heap.objs.size + 1) :: (vs ++ dvs)) (Value.ref (s1.heap.objs.size + 1) :: (us ++ ds)) := .cons rfl (r.append hd)
  have many : (Value.ref (s1.heap.objs.size + 1) :: us ++ ds).length = ps.length := (rr.length.symm.trans (F.len _ _ _ _ todo))
  refine wpAny_call (make_map (f := f) I1.kIn M.makes M.init (beq_iff_eq.mp M.fn) (codeAny_mono (F.run _ X.stack _ _ ⟨_, []⟩ _ _ _ (E σ) (hr.make C us []) (J.env0.make C us []) (hb _ (Value.ref (s1.heap.objs.size + 1) :: us) J.kIn many) rr todo) fun
    | .error er, s2, z => hx σ pins _ _ er s2 J z
    | .ok (.ret u), s2, z => ?_
    | .ok .next, _, z => False.elim z
    | .ok .brk, _, z => False.elim z
    | .ok .cont, _, z => False.elim z))
  obtain ⟨v, H3, J3, rv, rfl, z3⟩ := J.after z
  exact ⟨rv, .ref (s1.heap.objs.size + 1), H3, J3, rfl, z3⟩
end
end My

set_option Elab.async false
set_option linter.all false
set_option maxRecDepth 100000
set_option maxHeartbeats 4000000
/-! ### defs that close over their class, and super().__init__(..) of an own error -/
namespace My
open PySem L2 NdefX
/-- a block whose activation is known -/
structure PSat (X : Cx) (c : Code) (body : List Stmt) (t : TS) : Prop where
  run : ∀ (pins : List (Addr × Obj)) (s : Shared) (σ : L2.St) (H : Hp) (D : Ends), Inv X pins σ H s → t D σ H → wpAt (model X.prog X.w) X.A c (execs body X.env) (SP X pins D) X.xe s
structure PSat1 (X : Cx) (c : Code) (st : Stmt) (t : TS) : Prop where
  run : ∀ (pins : List (Addr × Obj)) (s : Shared) (σ : L2.St) (H : Hp) (D : Ends), Inv X pins σ H s → t D σ H → wpAt (model X.prog X.w) X.A c (exec st X.env) (SP X pins D) X.xe s
theorem psat_of {X : Cx} {c : Code} {body : List Stmt} {t : TS} (h : PSs X body t) : PSat X c body t := ⟨fun pins s σ H D I q => wpAt_of_wpAny (h.run pins s σ H D I q)⟩
theorem psat_cons {X : Cx} {c : Code} {st : Stmt} {rest : List Stmt} {t u : TS} (h1 : PSat1 X c st t) (h2 : PSs X rest u) : PSat X c (st :: rest) (tSeq t u) := by
  refine ⟨fun pins s σ H D I q => ?_⟩
  refine PySem.ks_wpAt_execs_cons (wpAt_mono (h1.run pins s σ H { D with nx := u D } I q) (fun f s1 r => ?_) fun _ _ z => z)
  cases f with
  | next =>
    obtain ⟨σ', H', I', r⟩ := r
    exact wpAt_of_wpAny (h2.run pins s1 σ' H' D I' r)
  | brk => exact r
  | cont => exact r
  | ret u => exact r
/-- the words of a def that closes over its class -/
def nfOf (x qual : Str) (st : Stmt) (cc cda : Addr) : NF := ⟨x, qual, defArgs st, defBody st, defScope st, [("__class__", cc)], cda⟩
structure FunX (K : PySem.W.Frag) (x qual : Str) (st : Stmt) (f : Addr) (fd : FuncData) (cc cda D : Addr) : Prop where
  ex : ∃ (oc : Value) (od : Option Addr) (kV doc pm : Value) (an : Option Addr) (ct : Value) (osl : Array (Option Value)),
    fd = PySem.W.fnX x qual (defArgs st) (defBody st) (defScope st) [("__class__", cc)] .none kV doc pm an (.ref cda) ct ∧ K.lookup f = some ⟨oc, od, .func fd, osl⟩ ∧ PySem.W.codeIn K (.ref cda) qual = true
  cell : ∃ (cl : Value) (cld : Option Addr) (csl : Array (Option Value)), K.lookup cc = some ⟨cl, cld, .cell (some (.ref D)), csl⟩
  kp : PySem.W.keepIn K (.ref f) = true
section
variable {P : Program} {w : World} {K : PySem.W.Frag} {mg : Str → Option Value} {base : Heap}
abbrev cxX (CX : CXT) (P : Program) (w : World) (K : PySem.W.Frag) (mg : Str → Option Value) (base : Heap) (N : List Str) (x qual : Str) (st : Stmt) (cc cda f : Addr) (A : Around) (outer : List Env) (s : Shared) (H : Hp) (E : XK) : Cx := ncx CX P w K mg base N (nfOf x qual st cc cda) f A outer s H E
theorem FunX.ok {CX : CXT} {x qual : Str} {st : Stmt} {f cc cda D : Addr} {fd : FuncData} {N ps : List Str} {k : Nat} {sp : Sp} (F : FunX K x qual st f fd cc cda D) (S : NScope N ps ["__class__"] (defScope st)) (len : ∀ vs H Q E, sp vs H Q E → vs.length = ps.length)
    (hbody : ∀ (A : Around) (outer : List Env) (s : Shared) (H : Hp) (vs : List V) (Q : VK) (E : XK), Room k (A.deeper (envF (nfOf x qual st cc cda) f s.heap.objs.size)) → sp vs H Q E →
      ∃ t, PSat (cxX CX P w K mg base N x qual st cc cda f A outer s H E) (.func (defBody st) (envF (nfOf x qual st cc cda) f s.heap.objs.size)) (defBody st) t ∧ t { nx := fun _ H' => Q .non H', rt := Q } (startF N vs [some (.ref D)]) H) :
    FnOk P w K mg base CX (k + 1) f fd ps sp := by
  obtain ⟨oc, od, kV, doc, pm, an, ct, osl, rfl, lk, hcd⟩ := F.ex
  obtain ⟨cl, cld, csl, hcc⟩ := F.cell
  refine ⟨len, fun A outer s H args us vs Q E hr e0 hb r hsp => ?_⟩
  have hl := len _ _ _ _ hsp
  have KX : K.In s.heap := e0.mod.kin.keeps fun b o e => (e0.bs b o e).1
  have lim : s.heap.NoLimit := e0.mod.nolimit.keeps fun b o e => (e0.bs b o e).1
  have hcB := e0.mod.kin _ _ hcc
  have C : CellsAt (nfOf x qual st cc cda).cl ["__class__"] [some (.ref D)] s.heap H := by
    refine ⟨rfl, fun y c e => ?_, fun a b c e1 e2 => ?_, fun i y e => ?_⟩
    · have e' : (if y = ("__class__" : Str) then some cc else none) = some c := by
        rw [← e]
        show _ = List.lookup y [(("__class__" : Str), cc)]
        rw [List.lookup_cons, List.lookup_nil]
        by_cases h : y = ("__class__" : Str)
        · rw [if_pos h, beq_iff_eq.mpr h]
        · rw [if_neg h, beq_eq_false_iff_ne.mpr h]
      split at e'
      · cases e'
        exact ⟨(e0.bs _ _ hcB).2, _, _, KX _ _ hcc, rfl⟩
      · cases e'
    · have g : ∀ (y : Str) (d : Addr), List.lookup y [(("__class__" : Str), cc)] = some d → y = "__class__" := by
        intro y d e
        rw [List.lookup_cons, List.lookup_nil] at e
        by_cases h : y = ("__class__" : Str)
        · exact h
        · rw [beq_eq_false_iff_ne.mpr h] at e
          cases e
      exact (g a c e1).trans (g b c e2).symm
    · match i, e with
      | 0, e =>
        have ey : y = "__class__" := (Option.some.inj e).symm
        subst ey
        exact ⟨cc, rfl, fun v hv => ⟨.ref D, by cases hv; rfl, _, KX _ _ hcc, rfl⟩⟩
      | i + 1, e => cases e
  refine PySem.ks_codeAny_call_defAt (fd := PySem.W.fnX x qual (defArgs st) (defBody st) (defScope st) [("__class__", cc)] .none kV doc pm an (.ref cda) ct) (body := defBody st) (binds := ps.zip us) hr.depth (KX _ _ lk) rfl lim (PySem.W.codeRec_of KX hcd) rfl hb S.nocell (fun ⟨n, v⟩ hy => S.par n (List.of_mem_zip hy).1) (fun h₁ hns kp => ?_) S.co S.gen S.kind
  obtain ⟨t, ht, hq⟩ := hbody A outer s H vs Q E (hr.deeper _) hsp
  have I : Inv (cxX CX P w K mg base N x qual st cc cda f A outer s H E) [] (startF N vs [some (.ref D)]) H { s with heap := h₁, toks := s.toks + (ps.zip us).length } := inv_startN S hr.hd e0 hl r C hns kp
  refine wpAt_mono (ht.run [] _ (startF N vs [some (.ref D)]) H _ I hq) (fun fl s' hs => ?_) fun e s' hs => hs
  have fin : ∀ {σ' : L2.St} {H' : Hp} {v : V} {u : Value}, Inv (cxX CX P w K mg base N x qual st cc cda f A outer s H E) [] σ' H' s' → L2.RelV v u → Q v H' → CE outer P w H s Q u s' :=
    fun {σ' H' v u} J rv q => ⟨v, H', J.os, J.bare, J.base, J.hok, rv, q⟩
  cases fl with
  | ret u =>
    obtain ⟨v, σ', H', J, rv, q⟩ := hs
    exact fin J rv q
  | next =>
    obtain ⟨σ', H', J, q⟩ := hs
    exact fin (v := V.non) (u := Value.none) J rfl q
  | brk =>
    obtain ⟨_, _, _, q⟩ := hs
    exact False.elim q
  | cont =>
    obtain ⟨_, _, _, q⟩ := hs
    exact False.elim q
end

/-! ### super().__init__(e) -/
/-- what the written part says of an own error that is made by an __init__ of its own: OexC, its place in the chain -/
structure ErrC (K : PySem.W.Frag) (C : Addr) : Prop where
  ox : OexC K C
  sup : PySem.W.ks_superIn K C C "__init__" = some (some (.builtin "ValueError.__init__"))
  isV : PySem.W.subIn K (.ref C) (.type "ValueError") = some true
  opq : PySem.W.nsIn K cStatics "thirdparty.any" = some none
  me : PySem.W.mroIn K C (.ref C) = some true
/-- what the code object of the def tells -/
structure CodeF (K : PySem.W.Frag) (P : Program) (cda : Addr) : Prop where
  at_ : ∃ (ccl : Value) (cdd : Option Addr) (vs : Array Value) (ccs : Array (Option Value)) (file : Str) (tf : Tok), K.lookup cda = some ⟨ccl, cdd, .fields vs, ccs⟩ ∧ vs[2]? = some (.str file tf) ∧ ((P.main.file : Str) == file) = true
  noTop : (P.main.scope.names.lookup ("super" : Str)).isSome = false
/-- the reading: the text is reckoned, nothing more -/
def tSupI (C : Addr) (ta : TA) : TS := fun D σ H => ∃ a : Addr, σ[0]? = some (some (.ref a)) ∧ H a = some (exo a C none) ∧ ta σ H fun vs H1 => vs.length ≤ 1000 ∧ H1 a = some (exo a C none) ∧ D.nx σ H1
section
variable {X : Cx}
theorem psat_sup {body : List Stmt} {f cc cda C : Addr} {fd : FuncData} {oc : Value} {od : Option Addr} {osl : Array (Option Value)} {cl : Value} {cld : Option Addr} {csl : Array (Option Value)} {ar : Arg} {e : Expr} {es : List Expr} {ta : TA} {p0 p1 apos cpos pos : Pos} {pl : Sem Bool}
    (T : ErrC X.K C) (G : CodeF X.K X.prog cda)
    (hf : X.K.lookup f = some ⟨oc, od, .func fd, osl⟩) (hp : (fd.params.posonlyargs ++ fd.params.args).head? = some ar)
    (hcell : X.K.lookup cc = some ⟨cl, cld, .cell (some (.ref C)), csl⟩) (hsuper : X.mg "super" = none)
    (hfu : X.env.func = some f) (hco : X.env.code = .ref cda) (hcl : X.env.cells.lookup ("__class__" : Str) = some cc)
    (hks : X.env.scope.names.lookup ("super" : Str) = some .globalImplicit) (hkc : X.env.scope.names.lookup ("__class__" : Str) = some .free) (hka : X.env.scope.names.lookup ar.arg = some .local)
    (hN : X.N[0]? = some ar.arg) (ha : PA X (e :: es) ta)
    (hev : eval (.Call (.Attribute (.Call (.Name "super" p0) [] [] p1) "__init__" apos) (e :: es) [] cpos) X.env = (do
      let ov ← attributeBase (.Call (.Name "super" p0) [] [] p1) "__init__" X.env (eval (.Call (.Name "super" p0) [] [] p1) X.env)
      standAt apos.atName
      let (f, first) ← holding [ov] (getMethod ov "__init__" pl)
      callWith cpos f first (backTo cpos (starEach (e :: es) X.env)) []))
    (hst : starEach (e :: es) X.env = (false, eval e X.env) :: starEach es X.env) (hpl : (backTo cpos (starEach es X.env)).any (·.1) = false)
    (hsw : swapsWith (.Call (.Attribute (.Call (.Name "super" p0) [] [] p1) "__init__" apos) (e :: es) [] cpos) none pos.line X.env = pure false) (hint : interactive X.env = false) :
    PSat1 X (.func body X.env) (.Expr (.Call (.Attribute (.Call (.Name "super" p0) [] [] p1) "__init__" apos) (e :: es) [] cpos) pos) (tSupI C ta) := by
  refine ⟨fun pins s σ H D I h => ?_⟩
  obtain ⟨a, hσ, ea, q⟩ := h
  obtain ⟨ccl, cdd, vs, ccs, file, tf, hcode, hvs, hfile⟩ := G.at_
  obtain ⟨nm, qn, N, bs, bm, sn, sub, ab, col, dd, k0, k1, k2, k3, k5, hC, hbm⟩ := T.ox.cls
  have hcls : PySem.W.clsIn X.K C = some { name := nm, bases := bs, mro := .ref C :: bm, ns := N, qualname := qn, hasDict := true, slotNames := sn, subclasses := sub, abstract := ab, collection := col, hasDel := false } := by unfold PySem.W.clsIn; rw [hC] <;> rfl
  obtain ⟨t1, ho⟩ := exo_at I.hok ea
  obtain ⟨hh, g, d, t, os⟩ := s
  have XK := I.kIn
  obtain ⟨mb, hb1, hb2⟩ := I.mod.blt
  obtain ⟨m, hn, hl⟩ := id I.loc
  obtain ⟨u0, ru0, lk0⟩ := hl 0 ar.arg (.ref a) hN hσ (.inl hka)
  obtain rfl : u0 = Value.ref a := ru0
  have hv : m ar.arg = some (Value.ref a) := by
    rcases lk0 with ⟨_, e⟩ | ⟨z, _⟩
    · exact e
    · exfalso
      rcases z with z | z
      · have z' : X.env.scope.names.lookup ar.arg = some .cell := z
        rw [hka] at z'; cases z'
      · have z' : X.env.scope.names.lookup ar.arg = some .free := z
        rw [hka] at z'; cases z'
  refine PySem.ks_wpAt_Expr_any (PySem.ks_wpAt_MethodCall ?_ hev) hint hsw
  refine PySem.ks_wpAt_super_base (env := X.env) hks hkc (by decide) hfu (XK _ _ hf) rfl hp hco (XK _ _ hcode) rfl hvs hfile G.noTop ?_
  refine PySem.W.ks_loadName_global I.ok.kind hks (PySem.Calls.loadGlobal_builtin (by rw [I.ok.glob]; exact I.mod.glob.keeps I.bk) hsuper (by rw [I.ok.blt]; exact hb1.keeps I.bk) ((hb2 "super" (by decide)).trans (by decide +kernel)) ⟨rfl, ?_⟩)
  refine wpAny_loadName_free I.ok.kind hkc hcl ⟨_, XK _ _ hcell, rfl⟩ ?_
  refine wpAny_loadName_local I.ok.kind hka hn hv ?_
  refine ks_wpAny_isType_cls (XK _ _ hC) rfl ⟨rfl, ?_⟩
  refine ks_wpAny_call_super (XK _ _ hC) rfl ho rfl (fun c z => nomatch z) (PySem.W.looks_mroIn XK T.me) (fun h' e1 k1' => ?_)
  have I1 : Inv X pins σ H ⟨h', g, d, t, os⟩ := I.kept (t' := t) k1'
  have X1 := I1.kIn
  have ho1 := k1' _ _ ho
  have IA : PySem.W.InstAt h' a _ C none := ⟨ho1, rfl, rfl, trivial⟩
  refine PySem.W.kxs_getMethod PySem.W.kxs_ValueError e1 (PySem.W.looks_opaque X1 T.opq) (l₀ := .ref C :: bm) ?_ rfl X1 ?_ (IA.type.andThen (PySem.W.looks_subIn X1 T.isV)) (PySem.W.ks_ne X1 IA hcls) (by decide) ?_
  · exact fun A Q E s k q => wpAny_bind ((PySem.W.looks_clsIn X1 hcls) A _ E s k (wpAny_pure q))
  · have q1 := T.sup
    unfold PySem.W.ks_superIn at q1
    rw [hcls] at q1
    exact q1
  have I2 : Inv X pins σ H ⟨h'.push (PySem.W.kxs_mw "ValueError.__init__" a), g, d, t + 1, os⟩ := I1.kept (t' := t + 1) (fun b o z => Heap.get?_push_of_some _ z)
  have hu2 : (h'.push (PySem.W.kxs_mw "ValueError.__init__" a)).get? h'.objs.size = some (PySem.W.kxs_mw "ValueError.__init__" a) := Heap.get?_push_size _ rfl
  have hHu : H h'.objs.size = none := I1.hok.fresh (Nat.le_refl _)
  have J2 : Inv X ((h'.objs.size, PySem.W.kxs_mw "ValueError.__init__" a) :: pins) σ H ⟨h'.push (PySem.W.kxs_mw "ValueError.__init__" a), g, d, t + 1, os⟩ := by
    refine I2.pins_of fun p hp => ?_
    rcases List.mem_cons.mp hp with rfl | hp
    · exact ⟨hu2, hHu, Nat.ne_of_gt I1.lt, I1.nofs (Nat.le_refl _), fun v z => nomatch z⟩
    · exact I2.pin p (List.mem_append_right _ hp)
  have key : wpAny (model X.prog X.w) X.A (spliced (backTo cpos (starEach (e :: es) X.env))) (fun vs s₁ => PySem.W.KxsAt "ValueError.__init__" h'.objs.size a s₁.heap ∧ wpAny (model X.prog X.w) X.A (call (.ref h'.objs.size) vs) (fun _ => SP X pins D .next) X.xe s₁) X.xe ⟨h'.push (PySem.W.kxs_mw "ValueError.__init__" a), g, d, t + 1, os⟩ := by
    refine thn (ha.run cpos _ _ σ H _ J2 q) fun us s3 ⟨vs3, H1, I3, rv, hvl, ea1, qn⟩ => ?_
    have hu3 := (I3.pin (h'.objs.size, PySem.W.kxs_mw "ValueError.__init__" a) (List.mem_append_right _ List.mem_cons_self)).1
    refine ⟨hu3, ?_⟩
    have J3 : Inv X pins σ H1 s3 := I3.pins_of fun p hp => I3.pin p (List.mem_append_right _ (List.mem_cons_of_mem _ hp))
    obtain ⟨t2, ho3⟩ := exo_at J3.hok ea1
    have hus : us.length ≤ sizeLine := by
      rw [← Paired.length rv, sizeLine_eq]; omega
    have hC3 := J3.kIn _ _ hC
    obtain ⟨h3, g3, d3, tk3, os3⟩ := s3
    refine wpAny_call (codeAny_of_tree ?_)
    show wpAny _ X.A.in1 (callAny (.ref h'.objs.size) ⟨us, []⟩) _ _ _
    simp only [callAny]
    refine wpAny_bind (wpAny_load hu3 ?_)
    simp only [PySem.W.kxs_mw, show (Value.type "method-wrapper" == Value.type "method" || Value.type "method-wrapper" == Value.type "builtin_function_or_method" || Value.type "method-wrapper" == Value.type "method-wrapper") = true by decide, if_true]
    refine PySem.W.KFB.if_so (by decide) ?_
    refine wpAny_bind (PySem.W.check_bound_init F.excBase_ValueError.toExcCallFacts hC3 ho3 rfl ?_)
    refine wpAny_bind (wpAny_pure (wpAny_pure ?_))
    refine ⟨plainId_quiet F.excBase_ValueError.init.plain _, codeAny_builtin F.excBase_ValueError.initEntry ?_⟩
    refine PySem.W.exc_init_tree (cls := .ref C) (t0 := t2) (dv := none) (c2 := .none) (c3 := .none) (b4 := .bool false) ho3 hus fun h4 k4 hx4 ht4 => ?_
    have J := J3.write (t' := tk3) (x := a) (e := a) (o := exo a C none) (h' := h4) (by rw [ea1]; exact True.intro) (.inl rfl) k4 ⟨_, hx4⟩ (exo_ok hx4)
    have eu : upd H1 a (exo a C none) = H1 := by
      funext b
      by_cases hb : b = a
      · rw [hb, upd_same, ea1]
      · rw [upd_ne hb]
    rw [eu] at J
    exact ⟨σ, H1, J, qn⟩
  rw [hst] at key ⊢
  refine PySem.W.kxs_callWith (i := "ValueError.__init__") (x := a) (by show (false || (backTo cpos (starEach es X.env)).any (·.1)) = false; rw [hpl]; rfl) ?_
  exact PySem.Calls.evalArgs_plain key
end
end My

set_option Elab.async false
set_option linter.all false
set_option maxRecDepth 100000
set_option maxHeartbeats 4000000
/-! ### own errors: made, raised, caught, asked -/
namespace My
open PySem L2 NdefX
/-- __init__ of an error with one field: what it promises -/
def spErr1 (C : Addr) (f : Str) (P : V → Prop) : Sp := fun vs H Q _ => ∃ (a : Addr) (v : V), vs = [.ref a, v] ∧ P v ∧ H a = some (exo a C none) ∧ ∀ dx, H dx = none → dx ≠ a → Q .non (upd (upd H dx (exd dx [(f, v)])) a (exo a C (some dx)))
/-- .. with two fields -/
def spErr2 (C : Addr) (f g : Str) (P : V → V → Prop) : Sp := fun vs H Q _ => ∃ (a : Addr) (v u : V), vs = [.ref a, v, u] ∧ P v u ∧ H a = some (exo a C none) ∧ ∀ dx, H dx = none → dx ≠ a → Q .non (upd (upd (upd H dx (exd dx [(f, v)])) a (exo a C (some dx))) dx (exd dx [(g, u), (f, v)]))
theorem err_kp {H1 H2 : Hp} {a dx : Addr} {fs : List (Str × V)} (na : H1 a = none) (nd : H1 dx = none) (k : ∀ b, b ≠ a → b ≠ dx → H2 b = H1 b) : Kp [] H1 (upd (del H2 a) dx (.xd fs)) := fun b o _ e => by
  have h1 : b ≠ a := ne_of_none e na
  have h2 : b ≠ dx := ne_of_none e nd
  rw [upd_ne h2, del_ne h1, k b h1 h2]
  exact e
theorem err1_made {C : Addr} {f : Str} {P : V → Prop} {v : V} {H1 : Hp} {Q : XK} (hp : P v) (q : ∀ d H', H1 d = none → H' d = some (.xd [(f, v)]) → Kp [] H1 H' → Q (.ref C) (some d) H') :
    ([v] : List V).length ≤ 1000 ∧ ∀ a, H1 a = none → spErr1 C f P (.ref a :: ([v] ++ [])) (upd H1 a (exo a C none)) (fun v H2 => v = .non ∧ ∃ (d : Addr) (fs : List (Str × V)), H2 a = some (exo a C (some d)) ∧ H2 d = some (exd d fs) ∧ H1 d = none ∧ Q (.ref C) (some d) (upd (del H2 a) d (.xd fs))) (fun _ _ _ => False) := by
  refine ⟨by show 1 ≤ 1000; decide, fun a na => ⟨a, v, rfl, hp, upd_same, fun dx ndx hne => ?_⟩⟩
  rw [upd_ne hne] at ndx
  refine ⟨rfl, dx, _, upd_same, by rw [upd_ne hne]; exact upd_same, ndx, q dx _ ndx upd_same (err_kp na ndx fun b h1 h2 => ?_)⟩
  rw [upd_ne h1, upd_ne h2, upd_ne h1]
theorem err2_made {C : Addr} {f g : Str} {P : V → V → Prop} {v u : V} {H1 : Hp} {Q : XK} (hp : P v u) (q : ∀ d H', H1 d = none → H' d = some (.xd [(g, u), (f, v)]) → Kp [] H1 H' → Q (.ref C) (some d) H') :
    ([v, u] : List V).length ≤ 1000 ∧ ∀ a, H1 a = none → spErr2 C f g P (.ref a :: ([v, u] ++ [])) (upd H1 a (exo a C none)) (fun v H2 => v = .non ∧ ∃ (d : Addr) (fs : List (Str × V)), H2 a = some (exo a C (some d)) ∧ H2 d = some (exd d fs) ∧ H1 d = none ∧ Q (.ref C) (some d) (upd (del H2 a) d (.xd fs))) (fun _ _ _ => False) := by
  refine ⟨by show 2 ≤ 1000; decide, fun a na => ⟨a, v, u, rfl, hp, upd_same, fun dx ndx hne => ?_⟩⟩
  rw [upd_ne hne] at ndx
  refine ⟨rfl, dx, _, by rw [upd_ne hne.symm]; exact upd_same, upd_same, ndx, q dx _ ndx upd_same (err_kp na ndx fun b h1 h2 => ?_)⟩
  rw [upd_ne h2, upd_ne h1, upd_ne h2, upd_ne h1]
/-- what the written part says of an error class that is caught and asked -/
structure KitC (K : PySem.W.Frag) (C : Addr) : Prop where
  cl : (PySem.W.clsIn K C).isSome = true
  ga : PySem.W.findIn K (.ref C) "__getattribute__" = some (some (.builtin "BaseException.__getattribute__"))
  gg : PySem.W.findIn K (.ref C) "__getattr__" = some none
  bx : PySem.W.subIn K (.ref C) (.type "BaseException") = some true
  hc : PySem.W.findIn K (.ref C) "__class__" = some (some (.builtin "object.__class__"))
  hn : PySem.W.specialIn K (.builtin "object.__class__") "__get__" = some (some (.builtin "getset_descriptor.__get__"))
  ht : PySem.W.takesIn K (.builtin "object.__class__") = some true
  ob : PySem.W.mroIn K C (.type "object") = some true
/-- isinstance(e, c), e the error that the suite holds -/
def rIsX (K : PySem.W.Frag) (a : Addr) (cls : Value) (d : Option Addr) : List V → Hp → VK → Prop := fun xs H Q => ∃ (c : V) (cv : Value) (b : Bool) (D dd : Addr) (fs : List (Str × V)), xs = [.ref a, c] ∧ (∀ u, RelV c u → u = cv) ∧ cls = .ref D ∧ d = some dd ∧ H dd = some (.xd fs) ∧ KitC K D ∧ PySem.W.kitOne K (.ref D) cv = some b ∧ Q (.bl b) H
/-- .. a tuple of classes that was just laid -/
def rIsXT (K : PySem.W.Frag) (a : Addr) (cls : Value) (d : Option Addr) : List V → Hp → VK → Prop := fun xs H Q => ∃ (tp : Addr) (cs : List V) (us : List Value) (b : Bool) (D dd : Addr) (fs : List (Str × V)), xs = [.ref a, .ref tp] ∧ H tp = some (.tup cs) ∧ Paired ClsV cs us ∧ cls = .ref D ∧ d = some dd ∧ H dd = some (.xd fs) ∧ KitC K D ∧ PySem.W.kitAny K (.ref D) us = some b ∧ Q (.bl b) H
section
variable {X : Cx} {a : Addr} {oe : Obj} {cls : Value} {d : Option Addr} {pn : List (Addr × Obj)}
theorem inst_x {pins : List (Addr × Obj)} {s : Shared} {σ : L2.St} {H : Hp} {D dd : Addr} {fs : List (Str × V)} (I : Inv (X.suite a ((a, oe) :: pn)) pins σ H s) (hz : Zc (.ref D) (some dd) oe) (hf : ∃ vs, oe.data = .fields vs) (e : H dd = some (.xd fs)) : ∃ od, PySem.W.InstAt s.heap a oe D (some od) := by
  obtain ⟨ha, _⟩ := I.pin (a, oe) (List.mem_append_left _ List.mem_cons_self)
  obtain ⟨vs, hv⟩ := hf
  obtain ⟨mA, hns, _⟩ := (show ObjOk X.prog X.w H s.heap dd (.xd fs) from I.hok dd _ e)
  obtain ⟨od, ho, _⟩ := lookIn_ns hns
  exact ⟨od, ha, hz.1, by unfold PySem.W.notCls; rw [hv] <;> rfl, by rw [hz.2]; exact ho⟩
theorem call_isX (hz : Zc cls d oe) (hf : ∃ vs, oe.data = .fields vs) : CallR (X.suite a ((a, oe) :: pn)) (.builtin "isinstance") (rIsX X.K a cls d) := by
  intro pins s σ H xs us Q I r h
  obtain ⟨c, cv, b, D, dd, fs, rfl, hcv, rfl, rfl, ed, T, e, q⟩ := h
  obtain ⟨u1, u2, rfl, r1, r2⟩ := vals2 r
  cases (show u1 = Value.ref a from r1)
  cases hcv _ r2
  obtain ⟨od, J⟩ := inst_x I hz hf ed
  exact PySem.W.kia_one (PySem.W.kitx_exc T.cl T.ga T.gg T.bx T.hc T.hn T.ht T.ob) I.kIn J e (fun z => nomatch z) fun tk => ⟨.bl b, H, I.tok tk, rfl, q⟩
theorem call_isXT (hz : Zc cls d oe) (hf : ∃ vs, oe.data = .fields vs) : CallR (X.suite a ((a, oe) :: pn)) (.builtin "isinstance") (rIsXT X.K a cls d) := by
  intro pins s σ H xs us Q I r h
  obtain ⟨tp, cs, ws, b, D, dd, fs, rfl, hT, k, rfl, rfl, ed, T, e, q⟩ := h
  obtain ⟨u1, u2, rfl, r1, r2⟩ := vals2 r
  cases (show u1 = Value.ref a from r1)
  cases (show u2 = Value.ref tp from r2)
  obtain ⟨od, J⟩ := inst_x I hz hf ed
  obtain ⟨_, its, rv, o, h1, h2, n, h3⟩ := (show ObjOk X.prog X.w H s.heap tp (.tup cs) from I.hok tp _ hT)
  cases ClsV.all k rv
  obtain ⟨oc, od2, dt, sl⟩ := o
  simp only at h2 h3
  subst h2 h3
  exact PySem.W.kia_tup (PySem.W.kitx_exc T.cl T.ga T.gg T.bx T.hc T.hn T.ht T.ob) I.kIn J h1 e (fun z => nomatch z) fun tk => ⟨.bl b, H, I.tok tk, rfl, q⟩
end
end My

set_option Elab.async false
set_option linter.all false
set_option maxRecDepth 100000
set_option maxHeartbeats 4000000
/-! ### a list comprehension of two clauses -/
namespace My
open PySem L2
/-- the inner clause: it adds to the list at D; Nx behind it -/
def tLcIn (wi : TI) (g : TG) (tt : TT) (te : TE) (vs : List Nat) (D : Addr) (σ : L2.St) (H : Hp) (Nx : Hp → Prop) : Prop := wi σ H fun J H1 => ∃ W : Nat → Nat → Hp → Prop, (∃ m, W 0 m H1) ∧ ∀ i m H, W i m H →
  (J.stop i H ∧ Nx H) ∨ (J.go i H ∧ ∃ N2 : Hp → Prop, (∀ H', N2 H' → ∃ m', m' < m ∧ W (i + 1) m' H') ∧ ∀ x H', J.yld i H x H' → g x (wipe σ vs) H' fun σ2 H2 => wipe σ2 vs = wipe σ vs ∧ tt σ2 H2 fun b H3 =>
    if b = true then te σ2 H3 fun y H4 => ∃ acc, H4 D = some (.lst acc) ∧ acc.length < sizeLine ∧ N2 (upd H4 D (.lst (acc ++ [y]))) else N2 H3)
def tLc2 (wi1 : TI) (g1 : TG) (tt1 : TT) (wi2 : TI) (g2 : TG) (tt2 : TT) (te : TE) (vs vs2 : List Nat) : TE := fun σ H Q => wi1 σ H fun J H1 => ∀ D, H1 D = none → ∃ W : Nat → Nat → Hp → Prop, (∃ m, W 0 m (upd H1 D (.lst []))) ∧ ∀ i m H, W i m H →
  (J.stop i H ∧ Q (.ref D) H) ∨ (J.go i H ∧ ∃ Nx : Hp → Prop, (∀ H', Nx H' → ∃ m', m' < m ∧ W (i + 1) m' H') ∧ ∀ x H', J.yld i H x H' → g1 x (wipe σ vs) H' fun σ2 H2 => wipe σ2 vs = wipe σ vs ∧ tt1 σ2 H2 fun b H3 =>
    if b = true then tLcIn wi2 g2 tt2 te vs2 D σ2 H3 Nx else Nx H3)
section
variable {X : Cx} {elt t1 it1 t2 it2 : Expr} {ifs1 ifs2 : List Expr} {scope : Scope} {pos : Pos} {wi1 wi2 : TI} {g1 g2 : TG} {tt1 tt2 : TT} {te : TE} {vs vs2 : List Nat}
theorem lc2_in (hx : X.xe = fun _ _ => False) (hc : X.calm = true) (hi : PI X t2 it2 wi2) (pg : PG X t2 g2) (pt : PTs X ifs2 tt2) (pe : PE X elt te) {pins : List (Addr × Obj)} {s : Shared} {σ : L2.St} {H : Hp} {D : Addr} {Nx : Hp → Prop} (I : Inv X pins σ H s) (h : tLcIn wi2 g2 tt2 te vs2 D σ H Nx) :
    wpAny (model X.prog X.w) X.A (eval it2 X.env) (fun xv s1 => wpAny (model X.prog X.w) X.A (pyIter xv) (fun itv s2 => ∀ (R : Result → Shared → Prop), (∀ s' H', Inv X pins (wipe σ vs2) H' s' → Nx H' → R (.ok .next) s') →
      codeAny (model X.prog X.w) X.A (.compStart (.ListComp elt [⟨t1, it1, ifs1, 0⟩, ⟨t2, it2, ifs2, 0⟩] scope pos) 1 itv (.ref D) X.env) R s2) (fun _ _ => False) s1) (fun _ _ => False) s := by
  have key := hi.run pins s σ H _ I h
  rw [hx] at key
  refine wpAny_mono key (fun xv s1 h1 => wpAny_mono h1 (fun itv s2 h2 => ?_) fun _ _ z => z) fun _ _ z => z
  obtain ⟨it, fp, tn, J, H2, e, I2, T, st2, f2, W, ⟨m0, w0⟩, turn⟩ := h2
  subst e
  intro R fin
  have stat : ∀ {H' : Hp}, (∀ b ∈ fp, H' b = none) → ∀ b ∈ fp, FpOk X pins H' b := fun hn b hb => ⟨hn b hb, (f2 b hb).2⟩
  have I2w : Inv X pins (wipe σ vs2) H2 s2 := I2.weak (wipe_length ..) (fun j v e => (wipe_some e).1)
  have loop : codeAny (model X.prog X.w) X.A (.compLoop (.ListComp elt [⟨t1, it1, ifs1, 0⟩, ⟨t2, it2, ifs2, 0⟩] scope pos) 1 (.ref it) (.ref D) X.env) R s2 := by
    refine codeAny_loop rfl (fun n s' => ∃ i H', Inv X pins (wipe σ vs2) H' s' ∧ tn i s'.heap ∧ (∀ b ∈ fp, H' b = none) ∧ W i n H') ?_ m0 ⟨0, H2, I2w, st2, fun b hb => (f2 b hb).1, w0⟩
    rintro n s3 ⟨i, H3, I3, st3, fr3, w3⟩
    show wpAny _ X.A ((compTurn (.ListComp elt [⟨t1, it1, ifs1, 0⟩, ⟨t2, it2, ifs2, 0⟩] scope pos) 1 (.ref it) (.ref D) X.env).onRaise (fun x => do noteFrame x X.env; theTreesLotGoes x)) _ _ s3
    refine wpAny_noted ?_
    rw [compTurn_list2_in]
    refine wpAny_bind (wpAny_standAt ?_)
    rcases turn i n H3 w3 with ⟨stop, qn⟩ | ⟨go, N2, hN, step⟩
    · refine wpAny_bind (thnF (T.done X rfl rfl rfl hc i pins s3 _ H3 (fun _ _ => False) I3 (stat fr3) st3 stop) fun r s4 hr => ?_)
      obtain ⟨hr, I4⟩ := hr
      subst hr
      exact wpAny_pure (fin s4 H3 I4 qn)
    · refine wpAny_bind (thnF (T.item X rfl rfl rfl hc i pins s3 _ H3 (fun _ _ => False) I3 (stat fr3) st3 go) fun r s4 hr => ?_)
      obtain ⟨u, hr, h4⟩ := hr
      subst hr
      refine wpAny_bind (thnF h4 fun _ s5 h5 => ?_)
      obtain ⟨x, H5, I5, r5, y5, st5, fr5⟩ := h5
      have I5' := I5.pinned (stat fr5) (T.obj _ _ st5)
      have kg := pg.run _ s5 _ H5 x u _ I5' r5 (step x H5 y5)
      rw [hx] at kg
      refine wpAny_bind (thnF kg fun _ s6 h6 => ?_)
      obtain ⟨σ6, H6, I6, hw6, q6⟩ := h6
      have kt := pt.run _ s6 σ6 H6 _ I6 q6
      rw [hx] at kt
      refine wpAny_bind (thnF kt fun b s7 h7 => ?_)
      obtain ⟨H7, I7, q7⟩ := h7
      have again : ∀ {s' : Shared} {H' : Hp}, Inv X (pins ++ pinsAt fp s5.heap) σ6 H' s' → N2 H' → ∃ m, m < n ∧ ∃ i H', Inv X pins (wipe σ vs2) H' s' ∧ tn i s'.heap ∧ (∀ b ∈ fp, H' b = none) ∧ W i m H' := fun {s' H'} I' n7 => by
        obtain ⟨m', hm, w7⟩ := hN H' n7
        have hl : (wipe σ vs2).length = σ6.length := by rw [← hw6, wipe_length]
        refine ⟨m', hm, i + 1, H', (I'.unpinned (pins := pins)).weak hl (fun j v e => ?_), T.keep _ _ _ st5 fun b hb o e => (I'.pin (b, o) (List.mem_append_right _ (List.mem_append_right _ (mem_pinsAt hb e)))).1, fun b hb => ?_, w7⟩
        · rw [← hw6] at e
          exact (wipe_some e).1
        · obtain ⟨o, e, d⟩ := T.obj _ _ st5 b hb
          exact (I'.pin (b, o) (List.mem_append_right _ (List.mem_append_right _ (mem_pinsAt hb e)))).2.1
      cases b with
      | false =>
        simp only [Bool.false_eq_true, if_false] at q7 ⊢
        exact wpAny_pure ⟨rfl, again I7 q7⟩
      | true =>
        simp only [if_true] at q7 ⊢
        have ke := pe.run _ s7 σ6 H7 _ I7 q7
        rw [hx] at ke
        refine wpAny_bind (wpAny_bind (thnF ke fun z s8 h8 => ?_))
        obtain ⟨yv, H8, I8, r8, acc, hD8, hz8, nx⟩ := h8
        exact wpAny_bind (app_ok (X := X) I8 hD8 hz8 r8 fun s9 I9 => wpAny_pure (wpAny_pure ⟨rfl, again I9 nx⟩))
  exact compStart_list2_in loop (T.self X.A 0 _ _ _ st2 loop)
theorem lc2_core {own : List (Str × Nat)} (hc : X.calm = true) (hN : X.N.Nodup) (first : PI X t1 it1 wi1) (ok : BlkOk X.N X.env.scope scope own) (sub : ∀ j ∈ vs2, j ∈ own.map (·.2))
    (P1 : ∀ (s : Shared) (H : Hp) (C : Addr) (cl : List (Str × Addr)) (fp : List Addr), PG (X.blk s H scope (compEnvC scope cl C X.env) fp) t1 g1) (C1 : ∀ (s : Shared) (H : Hp) (C : Addr) (cl : List (Str × Addr)) (fp : List Addr), PTs (X.blk s H scope (compEnvC scope cl C X.env) fp) ifs1 tt1)
    (I2 : ∀ (s : Shared) (H : Hp) (C : Addr) (cl : List (Str × Addr)) (fp : List Addr), PI (X.blk s H scope (compEnvC scope cl C X.env) fp) t2 it2 wi2)
    (P2 : ∀ (s : Shared) (H : Hp) (C : Addr) (cl : List (Str × Addr)) (fp : List Addr), PG (X.blk s H scope (compEnvC scope cl C X.env) fp) t2 g2) (C2 : ∀ (s : Shared) (H : Hp) (C : Addr) (cl : List (Str × Addr)) (fp : List Addr), PTs (X.blk s H scope (compEnvC scope cl C X.env) fp) ifs2 tt2)
    (el : ∀ (s : Shared) (H : Hp) (C : Addr) (cl : List (Str × Addr)) (fp : List Addr), PE (X.blk s H scope (compEnvC scope cl C X.env) fp) elt te)
    (h1 : ∀ x, foldedSetIterable it1 X.env x = pure x ) (h2 : ∀ (C : Addr) (cl : List (Str × Addr)) x, foldedSetIterable it2 (compEnvC scope cl C X.env) x = pure x ) {pins : List (Addr × Obj)} {s : Shared} {σ : L2.St} {H : Hp} {Q : VK} {use : Option (Value → Sem Unit)} {Qf : Value → Shared → Prop} (I : Inv X pins σ H s) (rd : tLc2 wi1 g1 tt1 wi2 g2 tt2 te (own.map (·.2)) vs2 σ H Q)
    (behind : ∀ D C s' m H', Inv X pins σ H' s' → Q (.ref D) H' → s'.heap.Ns C m → FpOk X pins H' C → compPost (model X.prog X.w) X.A X.xe use Qf (.ref D) C (.ok .next) s') :
    wpAny (model X.prog X.w) X.A (comprehension (.ListComp elt [⟨t1, it1, ifs1, 0⟩, ⟨t2, it2, ifs2, 0⟩] scope pos) scope X.env (firstIterPos [⟨t1, it1, ifs1, 0⟩, ⟨t2, it2, ifs2, 0⟩] pos) (newList []) false (eval it1 X.env) use) Qf X.xe s := by
  have closed : ∀ y ∈ scope.names, y.2 = .free → ∃ c, X.env.cells.lookup y.1 = some c := fun y hy e =>
    (ok.free y hy e).elim (fun k => I.ok.has _ (.inl k)) (fun k => I.ok.has _ (.inr k))
  refine wpAny_comprehension_free (use := use) rfl h1 (closure_ok closed) ok.kind (fun y hy e => by rw [ok.uniq y hy, e]) (thn (first.run pins s σ H _ I rd) fun xv sA hA => thn hA fun itv sB hB => ?_)
  obtain ⟨it, fp, tn, J, HB, rfl, IB, T, stB, fB, q⟩ := hB
  refine wpAny_newObj_type (newEnv_comp ?_) (by show 0 ≤ sizeLine; decide)
  generalize hD : sB.heap.objs.size = D
  have noD : HB D = none := IB.hok.fresh (Nat.le_of_eq hD)
  obtain ⟨W, ⟨m0, w0⟩, turn⟩ := q D noD
  generalize hs3 : ({ sB with heap := sB.heap.push { cls := .type "list", data := .seq ([] : List Value).toArray } } : Shared) = s3
  have I3 : Inv X pins σ (upd HB D (.lst [])) s3 := by
    rw [← hs3]
    exact IB.laid (t' := sB.toks) (fun b o e => Heap.get?_push_of_some _ e) (Nat.le_of_eq hD) ⟨Nat.zero_le _, [], 0, .nil, by rw [← hD]; exact Heap.get?_push_size _ rfl⟩
  have h3 : s3.heap = sB.heap.push { cls := .type "list", data := .seq ([] : List Value).toArray } := by rw [← hs3]
  have f3 : ∀ b ∈ fp, FpOk X pins (upd HB D (.lst [])) b ∧ b < s3.heap.objs.size := fun b hb => by
    obtain ⟨o, e, _⟩ := T.obj _ _ stB b hb
    have lt : b < sB.heap.objs.size := Heap.lt_size e
    have ne : b ≠ D := by rw [← hD]; exact Nat.ne_of_lt lt
    exact ⟨⟨by rw [upd_ne ne]; exact (fB b hb).1, (fB b hb).2⟩, by rw [h3, Heap.size_push]; exact Nat.lt_succ_of_lt lt⟩
  have st3 : tn 0 s3.heap := T.keep _ _ _ stB fun b _ o e => by rw [h3]; exact Heap.get?_push_of_some _ e
  have I4 := block_start I3 ok hN f3
  have p1 := P1 s3 (upd HB D (.lst [])) s3.heap.objs.size (cellsFrom (s3.heap.objs.size + 1) scope.names (cloFrom X.env.cells scope.names [])) fp
  have c1 := C1 s3 (upd HB D (.lst [])) s3.heap.objs.size (cellsFrom (s3.heap.objs.size + 1) scope.names (cloFrom X.env.cells scope.names [])) fp
  have i2 := I2 s3 (upd HB D (.lst [])) s3.heap.objs.size (cellsFrom (s3.heap.objs.size + 1) scope.names (cloFrom X.env.cells scope.names [])) fp
  have p2 := P2 s3 (upd HB D (.lst [])) s3.heap.objs.size (cellsFrom (s3.heap.objs.size + 1) scope.names (cloFrom X.env.cells scope.names [])) fp
  have c2 := C2 s3 (upd HB D (.lst [])) s3.heap.objs.size (cellsFrom (s3.heap.objs.size + 1) scope.names (cloFrom X.env.cells scope.names [])) fp
  have e2 := el s3 (upd HB D (.lst [])) s3.heap.objs.size (cellsFrom (s3.heap.objs.size + 1) scope.names (cloFrom X.env.cells scope.names [])) fp
  have fold2 := h2 s3.heap.objs.size (cellsFrom (s3.heap.objs.size + 1) scope.names (cloFrom X.env.cells scope.names []))
  show codeAny _ _ (.compStart (.ListComp elt [⟨t1, it1, ifs1, 0⟩, ⟨t2, it2, ifs2, 0⟩] scope pos) 0 (.ref it) (.ref D) (compEnvC scope (cellsFrom (s3.heap.objs.size + 1) scope.names (cloFrom X.env.cells scope.names [])) s3.heap.objs.size X.env)) (compPost (model X.prog X.w) X.A X.xe use Qf (.ref D) s3.heap.objs.size) { s3 with heap := pushCells (s3.heap.push { cls := .type "dict", data := .dict #[] }) scope.names }
  have nfp : ∀ b ∈ fp, (upd HB D (.lst [])) b = none := fun b hb => (f3 b hb).1.1
  generalize hce : compEnvC scope (cellsFrom (s3.heap.objs.size + 1) scope.names (cloFrom X.env.cells scope.names [])) s3.heap.objs.size X.env = ce at I4 p1 c1 i2 p2 c2 e2 fold2 ⊢
  have cL : ce.locals = s3.heap.objs.size := by subst hce; rfl
  generalize hH3 : upd HB D (.lst []) = H3 at I3 I4 p1 c1 i2 p2 c2 e2 w0 nfp f3
  generalize hs4 : ({ s3 with heap := pushCells (s3.heap.push { cls := .type "dict", data := .dict #[] }) scope.names } : Shared) = s4 at I4 ⊢
  have st4 : tn 0 s4.heap := T.keep _ _ _ st3 fun b _ o e => by rw [← hs4]; exact pushCells_keeps _ _ _ _ (Heap.get?_push_of_some _ e)
  have stat : ∀ {σ' : L2.St} {H' : Hp} {s' : Shared}, Inv (X.blk s3 H3 scope ce fp) [] σ' H' s' → (∀ b ∈ fp, H' b = none) → ∀ b ∈ fp, FpOk (X.blk s3 H3 scope ce fp) [] H' b := fun {σ' H' s'} I' hn b hb =>
    ⟨hn b hb, (I'.ok.exf b hb).1, I'.ok.exfs b hb, .inl hb, fun x c e => (I'.ok.exf b hb).2 x c e, fun p hp => absurd (show p ∈ ([] : List (Addr × Obj)) ++ [] from hp) (by simp)⟩
  have loop : codeAny (model X.prog X.w) X.A (.compLoop (.ListComp elt [⟨t1, it1, ifs1, 0⟩, ⟨t2, it2, ifs2, 0⟩] scope pos) 0 (.ref it) (.ref D) ce) (compPost (model X.prog X.w) X.A X.xe use Qf (.ref D) s3.heap.objs.size) s4 := by
    refine codeAny_loop rfl (fun n s' => ∃ i H', Inv (X.blk s3 H3 scope ce fp) [] (wipe σ (own.map (·.2))) H' s' ∧ tn i s'.heap ∧ (∀ b ∈ fp, H' b = none) ∧ W i n H') ?_ m0 ⟨0, H3, I4, st4, nfp, w0⟩
    rintro n s5 ⟨i, H5, I5, st5, n5, w5⟩
    show wpAny _ X.A ((compTurn (.ListComp elt [⟨t1, it1, ifs1, 0⟩, ⟨t2, it2, ifs2, 0⟩] scope pos) 0 (.ref it) (.ref D) ce).onRaise (fun x => do noteFrame x ce; theTreesLotGoes x)) _ _ s5
    refine wpAny_noted ?_
    rw [compTurn_list2_out]
    refine wpAny_bind (wpAny_standAt ?_)
    rcases turn i n H5 w5 with ⟨stop, qq⟩ | ⟨go, Nx, hNx, step⟩
    · refine wpAny_bind (thnF (T.done (X.blk s3 H3 scope ce fp) rfl rfl rfl hc i [] s5 _ H5 (fun _ _ => False) I5 (stat I5 n5) st5 stop) fun r s6 hr => ?_)
      obtain ⟨hr, I6⟩ := hr
      subst hr
      refine wpAny_pure ?_
      have I7 : Inv X pins σ H5 s6 := I3.call' (ch := fp) I6.os I6.base I6.hok I6.bare fun b hb => ⟨(f3 b hb).1.2.2.2.1, (f3 b hb).1.2.1, (f3 b hb).1.2.2.2.2.1, (f3 b hb).1.2.2.2.2.2⟩
      have nC : H5 s3.heap.objs.size = none := by
        have z : H5 ce.locals = none := I6.free
        rw [cL] at z
        exact z
      obtain ⟨m, hn, _⟩ := I6.loc
      have hn : s6.heap.Ns ce.locals m := hn
      rw [cL] at hn
      exact behind D s3.heap.objs.size s6 m H5 I7 qq hn (I3.fpOk (Nat.le_refl _) nC)
    · refine wpAny_bind (thnF (T.item (X.blk s3 H3 scope ce fp) rfl rfl rfl hc i [] s5 _ H5 (fun _ _ => False) I5 (stat I5 n5) st5 go) fun r s6 hr => ?_)
      obtain ⟨u, hr, h6⟩ := hr
      subst hr
      refine wpAny_bind (thnF h6 fun _ s7 h7 => ?_)
      obtain ⟨x, H7, I7, r7, y7, st7, n7⟩ := h7
      have I7' := I7.pinned (stat I7 n7) (T.obj _ _ st7)
      refine wpAny_bind (thnF (p1.run _ s7 _ H7 x u _ I7' r7 (step x H7 y7)) fun _ s8 h8 => ?_)
      obtain ⟨σ8, H8, I8, hw8, q8⟩ := h8
      refine wpAny_bind (thnF (c1.run _ s8 σ8 H8 _ I8 q8) fun b s9 h9 => ?_)
      obtain ⟨H9, I9, q9⟩ := h9
      have back : ∀ {s' : Shared} {σ' : L2.St} {H' : Hp}, Inv (X.blk s3 H3 scope ce fp) ([] ++ pinsAt fp s7.heap) σ' H' s' → (wipe σ (own.map (·.2))).length = σ'.length → (∀ (j : Nat) (v : V), (wipe σ (own.map (·.2)))[j]? = some (some v) → σ'[j]? = some (some v)) → Nx H' →
          ∃ m, m < n ∧ ∃ i H', Inv (X.blk s3 H3 scope ce fp) [] (wipe σ (own.map (·.2))) H' s' ∧ tn i s'.heap ∧ (∀ b ∈ fp, H' b = none) ∧ W i m H' := fun {s' σ' H'} I' hl hv nx => by
        obtain ⟨m', hm, w'⟩ := hNx H' nx
        refine ⟨m', hm, i + 1, H', (I'.unpinned (pins := [])).weak hl hv, T.keep _ _ _ st7 fun b hb o e => (I'.pin (b, o) (List.mem_append_right _ (List.mem_append_right _ (mem_pinsAt hb e)))).1, fun b hb => ?_, w'⟩
        obtain ⟨o, e, _⟩ := T.obj _ _ st7 b hb
        exact (I'.pin (b, o) (List.mem_append_right _ (List.mem_append_right _ (mem_pinsAt hb e)))).2.1
      have hl8 : (wipe σ (own.map (·.2))).length = σ8.length := by rw [← hw8, wipe_length]
      cases b with
      | false =>
        simp only [Bool.false_eq_true, if_false] at q9 ⊢
        exact wpAny_pure ⟨rfl, back I9 hl8 (fun j v e => by rw [← hw8] at e; exact (wipe_some e).1) q9⟩
      | true =>
        simp only [if_true] at q9 ⊢
        refine wpAny_bind (thnF (lc2_in (X := X.blk s3 H3 scope ce fp) (t1 := t1) (it1 := it1) (ifs1 := ifs1) (scope := scope) (pos := pos) rfl hc i2 p2 c2 e2 I9 q9) fun xv s10 h10 => ?_)
        refine wpAny_bind (wpAny_standAt (wpAny_bind (wpAny_of_eq (fold2 xv) ?_)))
        refine wpAny_bind (wpAny_holding (thnF h10 fun itv s11 h11 => ?_))
        refine wpAny_bind (wpAny_runOwn ?_)
        refine h11 _ fun s' H' I' nx => ?_
        refine wpAny_pure ⟨rfl, back I' (by rw [wipe_length, wipe_length]; rw [wipe_length] at hl8; exact hl8) (fun j v e => ?_) nx⟩
        rw [← hw8] at e
        have z := wipe_some e
        rw [wipe_out fun hj => z.2 (sub j hj)]
        exact z.1
  exact codeAny_compStart_list loop (T.self X.A 0 _ _ _ st4 loop)
/-- [elt for t1 in it1 if .. for t2 in it2 if ..] -/
theorem pe_lc2 {own : List (Str × Nat)} (hc : X.calm = true) (hN : X.N.Nodup) (first : PI X t1 it1 wi1) (ok : BlkOk X.N X.env.scope scope own) (sub : ∀ j ∈ vs2, j ∈ own.map (·.2))
    (P1 : ∀ (s : Shared) (H : Hp) (C : Addr) (cl : List (Str × Addr)) (fp : List Addr), PG (X.blk s H scope (compEnvC scope cl C X.env) fp) t1 g1) (C1 : ∀ (s : Shared) (H : Hp) (C : Addr) (cl : List (Str × Addr)) (fp : List Addr), PTs (X.blk s H scope (compEnvC scope cl C X.env) fp) ifs1 tt1)
    (I2 : ∀ (s : Shared) (H : Hp) (C : Addr) (cl : List (Str × Addr)) (fp : List Addr), PI (X.blk s H scope (compEnvC scope cl C X.env) fp) t2 it2 wi2)
    (P2 : ∀ (s : Shared) (H : Hp) (C : Addr) (cl : List (Str × Addr)) (fp : List Addr), PG (X.blk s H scope (compEnvC scope cl C X.env) fp) t2 g2) (C2 : ∀ (s : Shared) (H : Hp) (C : Addr) (cl : List (Str × Addr)) (fp : List Addr), PTs (X.blk s H scope (compEnvC scope cl C X.env) fp) ifs2 tt2)
    (el : ∀ (s : Shared) (H : Hp) (C : Addr) (cl : List (Str × Addr)) (fp : List Addr), PE (X.blk s H scope (compEnvC scope cl C X.env) fp) elt te)
    (h1 : ∀ x, foldedSetIterable it1 X.env x = pure x := by intro _; rfl) (h2 : ∀ (C : Addr) (cl : List (Str × Addr)) x, foldedSetIterable it2 (compEnvC scope cl C X.env) x = pure x := by intro _ _ _; rfl) :
    PE X (.ListComp elt [⟨t1, it1, ifs1, 0⟩, ⟨t2, it2, ifs2, 0⟩] scope pos) (tLc2 wi1 g1 tt1 wi2 g2 tt2 te (own.map (·.2)) vs2) := by
  refine ⟨fun pins s σ H Q I rd => ?_⟩
  rw [eval_ListComp]
  refine lc2_core hc hN first ok sub P1 C1 I2 P2 C2 el h1 h2 I rd fun D C s' m H' I' q hn f => ⟨m, hn, fun h'' sb => ?_⟩
  obtain ⟨f0, f1, f2, f3, f4, f5⟩ := f
  exact ⟨.ref D, H', I'.turned (t' := s'.toks) (fun b o hb e => (sb.2 b hb).trans e) f0 f1 f3 f4 f5, rfl, q⟩
/-- name = [..] on one row, the name a local -/
theorem ps_setLc2 {i : Nat} {y : Str} {py spos : Pos} {own : List (Str × Nat)} (hc : X.calm = true) (hN : X.N.Nodup) (hy : X.N[i]? = some y) (hyl : X.env.scope.names.lookup y = some .local)
    (hsw : swapsWith (.ListComp elt [⟨t1, it1, ifs1, 0⟩, ⟨t2, it2, ifs2, 0⟩] scope pos) (some (.Name y py)) spos.line X.env = pure true) (first : PI X t1 it1 wi1) (ok : BlkOk X.N X.env.scope scope own) (sub : ∀ j ∈ vs2, j ∈ own.map (·.2))
    (P1 : ∀ (s : Shared) (H : Hp) (C : Addr) (cl : List (Str × Addr)) (fp : List Addr), PG (X.blk s H scope (compEnvC scope cl C X.env) fp) t1 g1) (C1 : ∀ (s : Shared) (H : Hp) (C : Addr) (cl : List (Str × Addr)) (fp : List Addr), PTs (X.blk s H scope (compEnvC scope cl C X.env) fp) ifs1 tt1)
    (I2 : ∀ (s : Shared) (H : Hp) (C : Addr) (cl : List (Str × Addr)) (fp : List Addr), PI (X.blk s H scope (compEnvC scope cl C X.env) fp) t2 it2 wi2)
    (P2 : ∀ (s : Shared) (H : Hp) (C : Addr) (cl : List (Str × Addr)) (fp : List Addr), PG (X.blk s H scope (compEnvC scope cl C X.env) fp) t2 g2) (C2 : ∀ (s : Shared) (H : Hp) (C : Addr) (cl : List (Str × Addr)) (fp : List Addr), PTs (X.blk s H scope (compEnvC scope cl C X.env) fp) ifs2 tt2)
    (el : ∀ (s : Shared) (H : Hp) (C : Addr) (cl : List (Str × Addr)) (fp : List Addr), PE (X.blk s H scope (compEnvC scope cl C X.env) fp) elt te)
    (h1 : ∀ x, foldedSetIterable it1 X.env x = pure x := by intro _; rfl) (h2 : ∀ (C : Addr) (cl : List (Str × Addr)) x, foldedSetIterable it2 (compEnvC scope cl C X.env) x = pure x := by intro _ _ _; rfl) :
    PS X (.Assign [.Name y py] (.ListComp elt [⟨t1, it1, ifs1, 0⟩, ⟨t2, it2, ifs2, 0⟩] scope pos) spos) (tAsg (tLc2 wi1 g1 tt1 wi2 g2 tt2 te (own.map (·.2)) vs2) (gName i)) := by
  refine ⟨fun pins s σ H D I h => ?_⟩
  rw [exec_Assign_Name_used _ _ _ _ hsw]
  refine wpAny_bind (wpAny_standAt (wpAny_bind ?_))
  show wpAny _ X.A (do let _ ← comprehension (.ListComp elt [⟨t1, it1, ifs1, 0⟩, ⟨t2, it2, ifs2, 0⟩] scope pos) scope X.env (firstIterPos [⟨t1, it1, ifs1, 0⟩, ⟨t2, it2, ifs2, 0⟩] pos) (newList []) false (eval it1 X.env) (some (assign (.Name y py) X.env))) _ _ s
  have h : tLc2 wi1 g1 tt1 wi2 g2 tt2 te (own.map (·.2)) vs2 σ H (fun x H1 => gName i x σ H1 D.nx) := h
  refine wpAny_bind (thn (lc2_core (Qf := fun _ s' => SP X pins D .next s') hc hN first ok sub P1 C1 I2 P2 C2 el h1 h2 I h fun L C s' m H' I' q hn f => ?_) fun _ s' hq => wpAny_pure (wpAny_pure hq))
  show wpAny _ _ (assign (.Name y py) X.env (.ref L)) _ _ _
  refine wpAny_assign_Name (store_ok2 (v := V.ref L) I' hN hy (.inl hyl) rfl (fun s2 J ⟨a, sb, ha⟩ => ?_) (.inr hyl))
  obtain ⟨f0, f1, f2, f3, f4, f5⟩ := f
  have ne : C ≠ a := ha.elim (fun z => by rw [z]; exact f1) fun z e => f4 y a z e.symm
  exact ⟨m, hn.sameBut sb ne, fun h3 sb3 => ⟨_, H', J.turned (t' := s2.toks) (fun b o hb e => (sb3.2 b hb).trans e) f0 f1 f3 f4 f5, q⟩⟩
end
end My

set_option Elab.async false
set_option linter.all false
set_option maxRecDepth 100000
set_option maxHeartbeats 4000000
/-! ### [te for p in range(m) for q in range(n)] -/
namespace My
open PySem L2
theorem it_range {m : Nat} {W0 : Hp → Prop} (Pv : Nat → Hp → Prop) {H : Hp} (h0 : Pv 0 H) {Nx : Hp → Prop} {g : TG} {tt : TT} {te : TE} {vs : List Nat} {σ : L2.St} {D : Addr}
    (step : ∀ i H', i < m → Pv i H' → g (.int (i : Nat)) (wipe σ vs) H' fun σ2 H2 => wipe σ2 vs = wipe σ vs ∧ tt σ2 H2 fun b H3 => if b = true then te σ2 H3 fun y H4 => ∃ acc, H4 D = some (.lst acc) ∧ acc.length < sizeLine ∧ Pv (i + 1) (upd H4 D (.lst (acc ++ [y]))) else Pv (i + 1) H3)
    (fin : ∀ H', Pv m H' → Nx H') : ∃ W : Nat → Nat → Hp → Prop, (∃ k, W 0 k H) ∧ ∀ i k H, W i k H →
  ((Itr 0 m).stop i H ∧ Nx H) ∨ ((Itr 0 m).go i H ∧ ∃ N2 : Hp → Prop, (∀ H', N2 H' → ∃ m', m' < k ∧ W (i + 1) m' H') ∧ ∀ x H', (Itr 0 m).yld i H x H' → g x (wipe σ vs) H' fun σ2 H2 => wipe σ2 vs = wipe σ vs ∧ tt σ2 H2 fun b H3 =>
    if b = true then te σ2 H3 fun y H4 => ∃ acc, H4 D = some (.lst acc) ∧ acc.length < sizeLine ∧ N2 (upd H4 D (.lst (acc ++ [y]))) else N2 H3) := by
  refine ⟨fun i k H => k + i = m ∧ Pv i H, ⟨m, rfl, h0⟩, fun i k H h => ?_⟩
  obtain ⟨e, p⟩ := h
  rcases Nat.lt_or_ge i m with lt | ge
  · refine .inr ⟨lt, Pv (i + 1), fun H' p' => ⟨k - 1, by omega, by omega, p'⟩, fun x H' y => ?_⟩
    obtain ⟨rfl, rfl⟩ := y
    rw [Int.zero_add]
    exact step i H' lt p
  · have z : i = m := by omega
    exact .inl ⟨by subst z; first | rfl | exact Nat.le_refl _, fin H (by rw [← z]; exact p)⟩
theorem lc2Rg {ta tb : TA} {te : TE} {σ : L2.St} {H : Hp} {Q : VK} {p q : Nat} (m n : Nat) (hm : m ≤ 1000) (hn : n ≤ 1000) (Pv : Addr → Nat → Nat → Hp → Prop)
    (ha : ∀ R : List V → Hp → Prop, R [.int (m : Nat)] H → ta σ H R)
    (hb : ∀ (D : Addr) (i : Nat) (H' : Hp) (R : List V → Hp → Prop), H D = none → i < m → Pv D i 0 H' → R [.int (n : Nat)] H' → tb ((wipe σ [p, q]).set p (some (.int (i : Nat)))) H' R)
    (hw1 : ∀ x, wipe ((wipe σ [p, q]).set p (some x)) [p, q] = wipe σ [p, q])
    (hw2 : ∀ x y, wipe ((wipe ((wipe σ [p, q]).set p (some x)) [q]).set q (some y)) [q] = wipe ((wipe σ [p, q]).set p (some x)) [q])
    (h0 : ∀ D, H D = none → Pv D 0 0 (upd H D (.lst [])))
    (body : ∀ (D : Addr) (i j : Nat) (H' : Hp), H D = none → i < m → j < n → Pv D i j H' → te ((wipe ((wipe σ [p, q]).set p (some (.int (i : Nat)))) [q]).set q (some (.int (j : Nat)))) H' fun y H4 => ∃ acc, H4 D = some (.lst acc) ∧ acc.length < sizeLine ∧ Pv D i (j + 1) (upd H4 D (.lst (acc ++ [y]))))
    (nextRow : ∀ (D : Addr) (i : Nat) (H' : Hp), Pv D i n H' → Pv D (i + 1) 0 H') (fin : ∀ D H', H D = none → Pv D m 0 H' → Q (.ref D) H') :
    tLc2 (iRng1 ta) (gName p) tYes (iRng1 tb) (gName q) tYes te [p, q] [q] σ H Q := by
  refine ha _ ⟨(m : Nat), rfl, by omega, by omega, fun D nD => ?_⟩
  rw [Int.toNat_natCast]
  refine ⟨fun i k H' => k + i = m ∧ Pv D i 0 H', ⟨m, rfl, h0 D nD⟩, fun i k H1 h => ?_⟩
  obtain ⟨e, pv⟩ := h
  rcases Nat.lt_or_ge i m with lt | ge
  · refine .inr ⟨lt, Pv D (i + 1) 0, fun H' p' => ⟨k - 1, by omega, by omega, p'⟩, fun x H' y => ?_⟩
    obtain ⟨rfl, rfl⟩ := y
    rw [Int.zero_add]
    refine ⟨hw1 _, ?_⟩
    simp only [tYes, if_true]
    refine hb D i H' _ nD lt pv ⟨(n : Nat), rfl, by omega, by omega, ?_⟩
    rw [Int.toNat_natCast]
    exact it_range (W0 := fun _ => True) (Pv D i) pv (fun j H2 hj pj => ⟨hw2 _ _, body D i j H2 nD lt hj pj⟩) fun H2 pj => nextRow D i H2 pj
  · have z : i = m := by omega
    exact .inl ⟨by subst z; first | rfl | exact Nat.le_refl _, fin D H1 nD (by rw [← z]; exact pv)⟩
end My

set_option Elab.async false
set_option linter.all false
set_option maxRecDepth 100000
/-! ### raised out of a walk of a dict: behind it the dict stands as before -/
namespace My
open PySem L2
/-- the same wish, asked where the walked dict is free again -/
def WLock (X : Cx) (W : WX) : WX := fun cls dx σ H => ∃ (d : Addr) (u : HO) (od : Obj), H d = some (.frz od u) ∧ (∀ o v, X.H_0 d ≠ some (.frz o v)) ∧ W cls dx σ (upd H d u)
theorem takes_lock {X : Cx} {W : WX} (tk : Takes X W) : Takes X (WLock X W) := by
  rintro e s' ⟨a, B, sI, pins, σ, H, cls, dx, rfl, I, nb, up, sky, na, os, ag, d, u, od, hd, nf, w⟩
  have ad : a ≠ d := fun z => by rw [z, hd] at na; cases na
  exact tk _ _ ⟨a, B, sI, pins, σ, upd H d u, cls, dx, rfl, I.unlock hd nf, nb, up, sky, by rw [upd_ne ad]; exact na, os, ag, w⟩
end My

set_option Elab.async false
set_option linter.all false
set_option maxRecDepth 100000
set_option maxHeartbeats 4000000
/-! ### operators, in, len, list of instances of an own class that define them -/
namespace My
open PySem PySem.Spec PyProof.Rows L2
section
variable {X : Cx} {CX : CXT} {pins : List (Addr × Obj)} {σ : L2.St} {H : Hp} {s : Shared} {C g a : Addr} {fd : FuncData} {ps : List Str} {sp : Sp} {E : XK} {k : Nat} {A1 : Around}
theorem inst_of {dx : Addr} {fs : List (Str × V)} (I : Inv X pins σ H s) (ha : H a = some (.ins C dx fs)) : ∃ ox od, PySem.W.InstAt s.heap a ox C (some od) := by
  obtain ⟨mA, J, _⟩ := ins_get I.hok ha
  obtain ⟨od, J', _⟩ := J.look
  exact ⟨_, od, J'⟩
theorem env_under (sb : Sub X k A1) (I : Inv X pins σ H s) : Env0 X.prog X.w X.K X.mg X.base A1 X.stack s H := by
  obtain ⟨f1, f2, f3, f4, f5, f6, f7, f8⟩ := I.env0
  exact ⟨(sb.fr).trans f1, f2, f3, f4, f5, f6, f7, f8⟩
/-- a def of the class runs somewhere below the body -/
theorem run_under {Q : VK} {us : List Value} {vs : List V} (F : FnOk X.prog X.w X.K X.mg X.base CX k g fd ps sp) (sb : Sub X k A1) (hb : Binds X.K fd ps []) (hx : Passes CX X E) (I : Inv X pins σ H s) (r : Vals vs us) (h : sp vs H Q E) :
    wpAny (model X.prog X.w) A1 (call (.ref g) us) (EP X pins σ Q) X.xe s := by
  have len := F.len _ _ _ _ h
  have bnd := hb s us I.kIn (by rw [List.append_nil, ← r.length]; exact len)
  rw [List.append_nil] at bnd
  refine wpAny_call (codeAny_mono (F.run A1 X.stack s H ⟨us, []⟩ us vs Q E sb.room (env_under sb I) bnd r h) ?_)
  rintro (e | fl) s' z
  · exact hx pins σ H s e s' I z
  · cases fl <;> first | exact I.after z | exact z.elim
/-- x op y, both instances of the class at C -/
def rBinO (C : Addr) (sp : Sp) (E : XK) : R2 := fun x y H Q => ∃ (a dx : Addr) (fs : List (Str × V)) (b dy : Addr) (gs : List (Str × V)), x = .ref a ∧ y = .ref b ∧ H a = some (.ins C dx fs) ∧ H b = some (.ins C dy gs) ∧ sp [.ref a, .ref b] H Q E
/-- what stands of an operator's def -/
structure BinC (K : PySem.W.Frag) (C g : Addr) (op : Operator) : Prop where
  one : PySem.W.selfFirst K C = true
  at_ : PySem.W.findIn K (.ref C) (PySem.dunder op.info.2) = some (some (.ref g))
  fn : PySem.W.isFn K (.ref g) = true
theorem sub_here (hr : Room k X.A) : Sub X k X.A := ⟨hr, rfl⟩
theorem op_binO {op : Operator} (c : BinC X.K C g op) (F : FnOk X.prog X.w X.K X.mg X.base CX k g fd ps sp) (hb : Binds X.K fd ps []) (hr : Room k X.A) (hx : Passes CX X E) : OpR X (binaryOp op) (rBinO C sp E) := by
  rintro pins s σ H x y v u Q I rx ry ⟨a, dx, fs, b, dy, gs, rfl, rfl, ha, hb', q⟩
  cases rx
  cases ry
  obtain ⟨ox, od, J⟩ := inst_of I ha
  obtain ⟨oy, ody, J'⟩ := inst_of I hb'
  obtain ⟨m, hF⟩ := I.fr
  refine PySem.W.binop_K hF I.ok.mod.kin J J'.type c.one c.at_ c.fn ?_
  refine thn (run_under (us := [.ref a, .ref b]) (vs := [.ref a, .ref b]) F (sub_here hr) hb hx I (.cons rfl (.cons rfl .nil)) q) ?_
  rintro w s' ⟨z, H', I', rz, qz⟩
  exact SlX.cmpback rz ⟨z, H', I', rz, qz⟩
/-- y in x, x an instance of the class at C: its __contains__ gives a bool -/
def rInO (C : Addr) (sp : Sp) (E : XK) (neg : Bool) : R2 := fun y x H Q => ∃ (a dx : Addr) (fs : List (Str × V)), x = .ref a ∧ H a = some (.ins C dx fs) ∧ sp [.ref a, y] H (fun v H' => ∃ b, v = .bl b ∧ Q (.bl (if neg then !b else b)) H') E
structure InC (K : PySem.W.Frag) (C g : Addr) : Prop where
  at_ : PySem.W.findIn K (.ref C) "__contains__" = some (some (.ref g))
  fn : PySem.W.isFn K (.ref g) = true
theorem op_inO (c : InC X.K C g) (F : FnOk X.prog X.w X.K X.mg X.base CX k g fd ps sp) (hb : Binds X.K fd ps []) (hr : Room k X.A) (hx : Passes CX X E) : OpR X (compareOp .In) (rInO C sp E false) := by
  rintro pins s σ H y x u v Q I ry rx ⟨a, dx, fs, rfl, ha, q⟩
  cases rx
  obtain ⟨ox, od, J⟩ := inst_of I ha
  obtain ⟨m, hF⟩ := I.fr
  refine PySem.W.in_K hF I.ok.mod.kin J c.at_ c.fn ?_
  refine thn (run_under (us := [.ref a, u]) (vs := [.ref a, y]) F (sub_here hr) hb hx I (.cons rfl (.cons ry .nil)) q) ?_
  rintro w s' ⟨z, H', I', rz, b, rfl, qz⟩
  cases rz
  exact wpAny_pure ⟨.bl b, H', I', rfl, qz⟩
theorem op_notInO (c : InC X.K C g) (F : FnOk X.prog X.w X.K X.mg X.base CX k g fd ps sp) (hb : Binds X.K fd ps []) (hr : Room k X.A) (hx : Passes CX X E) : OpR X (compareOp .NotIn) (rInO C sp E true) := by
  rintro pins s σ H y x u v Q I ry rx ⟨a, dx, fs, rfl, ha, q⟩
  cases rx
  obtain ⟨ox, od, J⟩ := inst_of I ha
  obtain ⟨m, hF⟩ := I.fr
  refine PySem.W.notIn_K hF I.ok.mod.kin J c.at_ c.fn ?_
  refine thn (run_under (us := [.ref a, u]) (vs := [.ref a, y]) F (sub_here hr) hb hx I (.cons rfl (.cons ry .nil)) q) ?_
  rintro w s' ⟨z, H', I', rz, b, rfl, qz⟩
  cases rz
  exact wpAny_pure ⟨.bl (!b), H', I', rfl, qz⟩
/-- len(x) -/
structure LenC (K : PySem.W.Frag) (C g : Addr) : Prop where
  at_ : PySem.W.findIn K (.ref C) "__len__" = some (some (.ref g))
  fn : PySem.W.isFn K (.ref g) = true
theorem len_under {R : Value → Shared → Prop} {Q1 : Nat → Hp → Prop} {dx : Addr} {fs : List (Str × V)} (c : LenC X.K C g) (F : FnOk X.prog X.w X.K X.mg X.base CX k g fd ps sp) (hb : Binds X.K fd ps []) (sb : Sub X (k + 1) A1) (hx : Passes CX X E) (I : Inv X pins σ H s)
    (ha : H a = some (.ins C dx fs)) (h : sp [.ref a] H (fun v H' => ∃ n : Nat, v = .int n ∧ n ≤ sizeLine ∧ Q1 n H') E) (hR : ∀ (n : Nat) H' s' t, n ≤ sizeLine → Inv X pins σ H' s' → Q1 n H' → R (.int n t) s') : wpAny (model X.prog X.w) A1 (call (.builtin "len") [.ref a]) R X.xe s := by
  obtain ⟨ox, od, J⟩ := inst_of I ha
  refine Calls.call_function_entry kind_len plain_len entry_len (args_len1 _) ?_
  unfold Builtin.«len»
  refine wpAny_bind (m := oneArg "len" _) (wpAny_pure ?_)
  refine wpAny_bind (PySem.W.special_fn I.kIn J c.at_ (beq_iff_eq.mp c.fn) ?_)
  refine thn (run_under (us := [.ref a]) (vs := [.ref a]) F sb.in1 hb hx I (.cons rfl .nil) h) ?_
  rintro w s' ⟨z, H', I', rz, n, rfl, hn, hq⟩
  obtain ⟨t, rfl⟩ := rz
  have h63 : ((n : Int)) < 2 ^ 63 := by
    rw [sizeLine_eq] at hn
    omega
  refine wpAny_bind (wpAny_holding (wpAny_pure ?_))
  refine wpAny_bind (wpAny_letGo ?_)
  refine wpAny_ite_false (decide_eq_false (show ¬ ((n : Int) < 0) by omega)) ?_
  refine wpAny_ite_false (decide_eq_false (show ¬ ((n : Int) ≥ 2 ^ 63) by omega)) ?_
  exact wpAny_bind (wpAny_mkInt (wpAny_pure ⟨_, rfl, hR n H' _ _ hn (I'.tok _) hq⟩))
def rLenO (C : Addr) (sp : Sp) (E : XK) : List V → Hp → VK → Prop := fun xs H Q => ∃ (a dx : Addr) (fs : List (Str × V)), xs = [.ref a] ∧ H a = some (.ins C dx fs) ∧ sp [.ref a] H (fun v H' => ∃ n : Nat, v = .int n ∧ n ≤ sizeLine ∧ Q (.int n) H') E
theorem call_lenO (c : LenC X.K C g) (F : FnOk X.prog X.w X.K X.mg X.base CX k g fd ps sp) (hb : Binds X.K fd ps []) (hr : Room (k + 1) X.A) (hx : Passes CX X E) : CallR X (.builtin "len") (rLenO C sp E) := by
  rintro pins s σ H xs us Q I r ⟨a, dx, fs, rfl, ha, q⟩
  obtain ⟨u, rfl, ru⟩ := r.one
  cases ru
  exact len_under (Q1 := fun n H' => Q (.int n) H') c F hb (sub_here hr) hx I ha q fun n H' s' t _ I' hq => ⟨.int n, H', I', ⟨t, rfl⟩, hq⟩
/-- something that is no more looked at -/
def junk (q : Addr) : HO := .ext fun h => ∃ o, h.get? q = some o
theorem junk_ok {P : Program} {w : World} {H : Hp} {h : Heap} {q : Addr} {o : Obj} (e : h.get? q = some o) : ObjOk P w H h q (junk q) := ⟨⟨_, e⟩, ⟨_, e⟩, fun _ _ ⟨u, z⟩ k => ⟨u, k _ z⟩⟩
/-- the class's __iter__ gives iter(l) of a list l, and it has a __len__ -/
structure IterC (K : PySem.W.Frag) (C gi gl : Addr) : Prop where
  it : PySem.W.findIn K (.ref C) "__iter__" = some (some (.ref gi))
  itF : PySem.W.isFn K (.ref gi) = true
  ln : LenC K C gl
/-- list(x) -/
def rListO (K : PySem.W.Frag) (C : Addr) (si sl : Sp) (E : XK) : List V → Hp → VK → Prop := fun xs H Q => ∃ (a dx : Addr) (fs : List (Str × V)), xs = [.ref a] ∧ H a = some (.ins C dx fs) ∧ ∀ q, H q = none →
  si [.ref a] (upd H q (.lst [])) (fun v H1 => ∃ (l it : Addr) (zs : List V), v = .ref it ∧ H1 a = some (.ins C dx fs) ∧ H1 it = some (ItO l it 0) ∧ SqL K H1 l zs ∧ l ≠ q ∧ l ≠ it ∧ H1 q = some (.lst []) ∧
    sl [.ref a] H1 (fun v H2 => ∃ n : Nat, v = .int n ∧ n ≤ sizeLine ∧ H2 it = some (ItO l it 0) ∧ SqL K H2 l zs ∧ H2 q = some (.lst []) ∧ Q (.ref q) (upd (upd H2 it (junk it)) q (.lst zs))) E) E
/-- .. where nothing is raised -/
theorem run_under0 {Q : VK} {us : List Value} {vs : List V} {Ex : Value → Shared → Prop} (F : FnOk X.prog X.w X.K X.mg X.base CX0 k g fd ps sp) (sb : Sub X k A1) (hb : Binds X.K fd ps []) (I : Inv X pins σ H s) (r : Vals vs us) (h : sp vs H Q E) :
    wpAny (model X.prog X.w) A1 (call (.ref g) us) (EP X pins σ Q) Ex s := by
  have len := F.len _ _ _ _ h
  have bnd := hb s us I.kIn (by rw [List.append_nil, ← r.length]; exact len)
  rw [List.append_nil] at bnd
  refine wpAny_call (codeAny_mono (F.run A1 X.stack s H ⟨us, []⟩ us vs Q E sb.room (env_under sb I) bnd r h) ?_)
  rintro (e | fl) s' z
  · exact False.elim z
  · cases fl <;> first | exact I.after z | exact z.elim
theorem len_under0 {R : Value → Shared → Prop} {Ex : Value → Shared → Prop} {Q1 : Nat → Hp → Prop} {dx : Addr} {fs : List (Str × V)} (c : LenC X.K C g) (F : FnOk X.prog X.w X.K X.mg X.base CX0 k g fd ps sp) (hb : Binds X.K fd ps []) (sb : Sub X (k + 1) A1) (I : Inv X pins σ H s)
    (ha : H a = some (.ins C dx fs)) (h : sp [.ref a] H (fun v H' => ∃ n : Nat, v = .int n ∧ n ≤ sizeLine ∧ Q1 n H') E) (hR : ∀ (n : Nat) H' s' t, n ≤ sizeLine → Inv X pins σ H' s' → Q1 n H' → R (.int n t) s') : wpAny (model X.prog X.w) A1 (call (.builtin "len") [.ref a]) R Ex s := by
  obtain ⟨ox, od, J⟩ := inst_of I ha
  refine Calls.call_function_entry kind_len plain_len entry_len (args_len1 _) ?_
  unfold Builtin.«len»
  refine wpAny_bind (m := oneArg "len" _) (wpAny_pure ?_)
  refine wpAny_bind (PySem.W.special_fn I.kIn J c.at_ (beq_iff_eq.mp c.fn) ?_)
  refine thn (run_under0 (us := [.ref a]) (vs := [.ref a]) F sb.in1 hb I (.cons rfl .nil) h) ?_
  rintro w s' ⟨z, H', I', rz, n, rfl, hn, hq⟩
  obtain ⟨t, rfl⟩ := rz
  have h63 : ((n : Int)) < 2 ^ 63 := by
    rw [sizeLine_eq] at hn
    omega
  refine wpAny_bind (wpAny_holding (wpAny_pure ?_))
  refine wpAny_bind (wpAny_letGo ?_)
  refine wpAny_ite_false (decide_eq_false (show ¬ ((n : Int) < 0) by omega)) ?_
  refine wpAny_ite_false (decide_eq_false (show ¬ ((n : Int) ≥ 2 ^ 63) by omega)) ?_
  exact wpAny_bind (wpAny_mkInt (wpAny_pure ⟨_, rfl, hR n H' _ _ hn (I'.tok _) hq⟩))
theorem hint_own {Q : Bool → Shared → Prop} {Ex : Value → Shared → Prop} {Q1 : Nat → Hp → Prop} {dx : Addr} {fs : List (Str × V)} (c : LenC X.K C g) (F : FnOk X.prog X.w X.K X.mg X.base CX0 k g fd ps sp) (hb : Binds X.K fd ps []) (sb : Sub X (k + 1) A1) (I : Inv X pins σ H s)
    (ha : H a = some (.ins C dx fs)) (h : sp [.ref a] H (fun v H' => ∃ n : Nat, v = .int n ∧ n ≤ sizeLine ∧ Q1 n H') E) (hR : ∀ b n H' s', Inv X pins σ H' s' → Q1 n H' → Q b s') : wpAny (model X.prog X.w) A1 (Builtin.List.listLengthHint (.ref a)) Q Ex s := by
  obtain ⟨ox, od, J⟩ := inst_of I ha
  unfold Builtin.List.listLengthHint
  refine wpAny_bind (wpAny_bind (J.type.here ((PySem.W.looks_findIn I.kIn c.at_).here ?_)))
  refine PySem.W.KFB.if_not rfl ?_
  refine PySem.W.KFB.if_so rfl ?_
  refine wpAny_bind (wpAny_rule ?_)
  refine wpAny_bind (wpAny_attempt (len_under0 c F hb sb I ha h ?_))
  intro n H' s' t hn I' hq
  show wpAny _ _ (pure (some (n : Int)) >>= _) _ _ _
  refine wpAny_bind (wpAny_pure ?_)
  have hl : Builtin.List.listTooLong ((n : Int).toNat) = false := by
    rw [Int.toNat_natCast]; exact notLongL hn
  refine PySem.W.KFB.if_not hl ?_
  exact wpAny_pure (hR _ n H' s' I' hq)
/-! ### the list's iterator, drawn to its end -/
theorem py_item {it l : Addr} {i : Nat} {items : Array Value} {v : Value} {prog : Program} {w : World} {Q : Option Value → Shared → Prop} {Ex : Value → Shared → Prop} (ho : s.heap.get? it = some (GNX.itObj l i)) (hl : s.heap.IsList l items) (hv : items[i]? = some v)
    (hQ : ∀ h', h'.get? it = some (GNX.itObj l (i + 1)) → (∀ b o, b ≠ it → s.heap.get? b = some o → h'.get? b = some o) → Q (some v) { s with heap := h' }) : wpAny (model prog w) A1 (pyNext (.ref it)) Q Ex s := by
  have hT : s.TypeIs (.ref it) "list_iterator" := ⟨_, ho, rfl⟩
  unfold pyNext
  refine wpAny_bind (wpAny_attempt (wpAny_callSpecial?_slot (name := Str.ofString "__next__") hT slot_listiter_next (wpAny_call_entry slot_listiter_next hT entry_listiter_next (GNX.next_item ho hl hv ?_) (args_listiter_next _))))
  intro h' e sb
  exact wpAny_pure (hQ h' e fun b o hb eb => (sb.2 b hb).trans eb)
theorem py_end {it l : Addr} {i : Nat} {items : Array Value} {prog : Program} {w : World} {Q : Option Value → Shared → Prop} {Ex : Value → Shared → Prop} (hh : A1.handled = none) (ho : s.heap.get? it = some (GNX.itObj l i)) (hl : s.heap.IsList l items) (hv : items[i]? = none)
    (hQ : ∀ h', h'.get? it = some (GNX.itEnd i) → (∀ b o, b ≠ it → s.heap.get? b = some o → h'.get? b = some o) → Q none { s with heap := h' }) : wpAny (model prog w) A1 (pyNext (.ref it)) Q Ex s := by
  have hT : s.TypeIs (.ref it) "list_iterator" := ⟨_, ho, rfl⟩
  unfold pyNext
  refine wpAny_bind (wpAny_attempt (wpAny_callSpecial?_slot (name := Str.ofString "__next__") hT slot_listiter_next (wpAny_call_entry slot_listiter_next hT entry_listiter_next (GNX.next_end hh ho hl hv ?_) (args_listiter_next _))))
  intro h1 h' e vs e1 sb k1 ne he hv'
  refine wpAny_bind (wpAny_isInstance (T := "StopIteration") (b := true) ⟨_, he, rfl⟩ PySem.isSubtype_stop ?_)
  exact wpAny_pure (hQ h' (k1 _ _ e1) fun b o hb eb => k1 _ _ ((sb.2 b hb).trans eb))
theorem same_upd {H : Hp} {q : Addr} {o : HO} (e : H q = some o) : upd H q o = H := by
  funext b
  by_cases z : b = q
  · rw [z, upd_same, e]
  · rw [upd_ne z]
theorem take_next' {α : Type} {xs : List α} {i : Nat} {x : α} (h : xs[i]? = some x) : xs.take (i + 1) = xs.take i ++ [x] := by
  rw [List.take_add_one, h]; rfl
/-- the loop that fills the list at q -/
theorem drain {q l it : Addr} {zs : List V} {F : Hp} {R : Result → Shared → Prop} (hh : A1.in1.handled = none) (lit : l ≠ it) (lq : l ≠ q) (hne : it ≠ q) (hdone : ∀ s', Inv X pins σ F s' → R (.ok (.ret .none)) s') :
    ∀ (n i : Nat) (H1 : Hp) (s1 : Shared), zs.length - i = n → i ≤ zs.length → Inv X pins σ H1 s1 → H1 it = some (ItO l it i) → SqL X.K H1 l zs → H1 q = some (.lst (zs.take i)) → upd (upd H1 it (junk it)) q (.lst zs) = F →
      codeAny (model X.prog X.w) A1 (.builtin "list.extend.loop" ⟨[.ref q, .ref it, .none], []⟩) R s1 := by
  intro n
  induction n with
  | zero =>
    intro i H1 s1 hn hi I hit hl hq hF
    obtain ⟨its, rv, pl, hz⟩ := I.list hl
    have hlen := rv.length
    have nope : its.toArray[i]? = none := by
      rw [List.getElem?_toArray]
      exact List.getElem?_eq_none (by omega)
    refine codeAny_builtin PySem.F.entry_extend_loop ?_
    rw [Around.under_plainId PySem.F.plain_extend_loop _]
    refine wpAny_bind (m := pyNext (.ref it)) (py_end hh (itO_get I hit) pl.isList nope fun h' he hk => ?_)
    have J : Inv X pins σ (upd H1 it (junk it)) { s1 with heap := h' } := I.write (t' := s1.toks) (x := it) (e := it) (by rw [hit]; exact True.intro) (.inl rfl) (fun b u hb e => hk b u hb e) ⟨_, he⟩ (junk_ok he)
    have e : upd H1 it (junk it) = F := by
      rw [← hF]
      refine (same_upd ?_).symm
      rw [upd_ne hne.symm, hq, List.take_of_length_le (by omega)]
    rw [e] at J
    exact wpAny_pure (hdone _ J)
  | succ n ih =>
    intro i H1 s1 hn hi I hit hl hq hF
    obtain ⟨its, rv, pl, hz⟩ := I.list hl
    have hlen := rv.length
    have hx : zs[i]? = some zs[i] := List.getElem?_eq_getElem (by omega)
    obtain ⟨u, hu, ru⟩ := rv.get hx
    refine codeAny_builtin PySem.F.entry_extend_loop ?_
    rw [Around.under_plainId PySem.F.plain_extend_loop _]
    refine wpAny_bind (m := pyNext (.ref it)) (py_item (itO_get I hit) pl.isList (v := u) (by simpa using hu) fun h' he hk => ?_)
    have J : Inv X pins σ (upd H1 it (ItO l it (i + 1))) { s1 with heap := h' } := I.write (t' := s1.toks) (x := it) (e := it) (by rw [hit]; exact True.intro) (.inl rfl) (fun b u hb e => hk b u hb e) ⟨_, he⟩ (itO_ok he)
    have hq' : (upd H1 it (ItO l it (i + 1))) q = some (.lst (zs.take i)) := by rw [upd_ne hne.symm]; exact hq
    obtain ⟨_, ys, c, r2, hl2, e2⟩ := J.lstM hq'
    have hy : ys.length = i := by rw [← hl2, List.length_take]; omega
    refine wpAny_bind (m := updateSeq q (·.push u)) (wpAny_updateSeq e2 rfl (wpAny_pure ⟨plainId_quiet PySem.F.plain_extend_loop _, ?_⟩) (by rw [List.size_toArray]; omega) (by rw [Array.size_push, List.size_toArray]; omega))
    have J2 := J.lset (f := (·.push u)) (its' := ys ++ [u]) (ys := zs.take (i + 1)) (t' := s1.toks) hq' e2 (by simp) (by rw [take_next' hx]; exact r2.append (.cons ru .nil)) (by rw [List.length_take]; omega)
    refine ih (i + 1) _ _ (by omega) (by omega) J2 ?_ ?_ upd_same ?_
    · rw [upd_ne hne]; exact upd_same
    · exact (((Kp.refl [it, q] H1).put (by simp)).put (by simp)).ls (by simp [lit, lq]) hl
    · rw [← hF]
      funext b
      by_cases z : b = q
      · rw [z, upd_same, upd_same]
      · rw [upd_ne z, upd_ne z]
        by_cases y : b = it
        · rw [y, upd_same, upd_same]
        · rw [upd_ne y, upd_ne y, upd_ne z, upd_ne y]
theorem call_listO {gi gl : Addr} {fdi fdl : FuncData} {psi psl : List Str} {si sl : Sp} {ki kl : Nat} (c : IterC X.K C gi gl) (Fi : FnOk X.prog X.w X.K X.mg X.base CX0 ki gi fdi psi si) (bi : Binds X.K fdi psi []) (Fl : FnOk X.prog X.w X.K X.mg X.base CX0 kl gl fdl psl sl) (bl : Binds X.K fdl psl [])
    (hr : Room (max ki (kl + 1) + 2) X.A) (hcalm : X.calm = true := by rfl) : CallR X (.type "list") (rListO X.K C si sl E) := by
  rintro pins s σ H xs us Q I rv ⟨a, dx, fs, rfl, ha, hq⟩
  obtain ⟨u, rfl, ru⟩ := rv.one
  cases ru
  have sb0 : Sub X (max ki (kl + 1)) X.A.in1.in1 := (sub_here hr).in1.in1
  have hh : X.A.handled = none := I.ok.hd hcalm
  refine callType_codes (Q₁ := fun obj s₁ => obj = .ref s.heap.objs.size ∧ s₁ = { s with heap := s.heap.push { cls := .type "list", data := .seq #[] } }) PySem.F.called_list (PySem.F.typeCall_list_1 _) PySem.F.entry_list_init (code_list_new _ ⟨rfl, rfl⟩) ?_
  rintro obj s₁ ⟨rfl, rfl⟩
  have hS : (s.heap.push { cls := .type "list", data := .seq #[] }).get? s.heap.objs.size = some { cls := .type "list", data := .seq #[] } := Heap.get?_push_size _ rfl
  refine ⟨⟨_, hS, rfl⟩, PySem.F.args_list_init_2 _ _, ?_⟩
  have fr : H s.heap.objs.size = none := I.hok.fresh (Nat.le_refl _)
  have todo := hq _ fr
  generalize hqq : s.heap.objs.size = q at *
  have I1 : Inv X pins σ (upd H q (.lst [])) { s with heap := s.heap.push { cls := .type "list", data := .seq #[] } } := by
    rw [← hqq]
    exact I.lnew (its := []) (t' := s.toks) .nil (Nat.zero_le _)
  show wpAny _ _ (Builtin.List.listItems (.ref q) >>= fun old => Builtin.List.listUpdate (.ref q) (fun _ => #[]) >>= fun _ => letGo old.toList.reverse >>= fun _ => Builtin.List.listExtendWith (.ref q) (.ref a) .none) _ _ _
  refine wpAny_bind ?_
  unfold Builtin.List.listItems
  refine wpAny_bind (wpAny_seqItems hS rfl (wpAny_pure ?_))
  refine wpAny_bind (m := updateSeq q fun _ => #[]) (wpAny_updateSeq hS rfl ?_)
  have I2 := I1.lset (f := fun _ => #[]) (its := []) (its' := []) (ys := []) (t' := s.toks) upd_same hS rfl .nil (Nat.zero_le _)
  rw [upd_upd] at I2
  refine wpAny_bind (wpAny_letGo ?_)
  have ha2 : upd H q (.lst []) a = some (.ins C dx fs) := by rw [upd_ne (ne_of_none ha fr)]; exact ha
  obtain ⟨ox, od, J⟩ := inst_of I2 ha2
  obtain ⟨m0, hF⟩ := I2.fr
  have naq : a ≠ q := ne_of_none ha fr
  unfold Builtin.List.listExtendWith
  refine wpAny_bind (J.type.here ?_)
  have h1 : Builtin.List.listSameRef (.ref q) (.ref a) = false := beq_eq_false_iff_ne.mpr naq.symm
  refine PySem.W.KFB.if_not (by rw [h1]; rfl) ?_
  refine wpAny_bind (PySem.W.owit_iter hF I2.ok.mod.kin J c.it c.itF ?_)
  refine thn (run_under0 (us := [.ref a]) (vs := [.ref a]) Fi (sb0.mono (Nat.le_max_left _ _)) bi I2 (.cons rfl .nil) todo) ?_
  rintro w s2 ⟨z, H1, I3, rz, l, it, zs, rfl, ha3, hit, hl, lq, lit, hq3, hsl⟩
  cases rz
  unfold PySem.W.OwitIt
  have hT : s2.TypeIs (.ref it) "list_iterator" := ⟨_, itO_get I3 hit, rfl⟩
  refine wpAny_specialOf (name := Str.ofString "__next__") hT slot_listiter_next.lookup ?_
  refine wpAny_bind (wpAny_holding (hint_own c.ln Fl bl (sb0.mono (Nat.le_max_right _ _)) I3 ha3 hsl ?_))
  rintro room n H2 s3 I4 ⟨hit4, hl4, hq4, qend⟩
  have hne : it ≠ q := ne_of hit4 hq4 (fun z => by cases z)
  have fin : ∀ s4, Inv X pins σ H2 s4 → codeAny (model X.prog X.w) X.A.in1 (.builtin "list.extend.loop" ⟨[.ref q, .ref it, .none], []⟩) (wants (fun r s₂ => r = .none ∧ EP X pins σ Q (.ref q) s₂) X.xe) s4 := fun s4 I5 =>
    drain (A1 := X.A.in1) (F := upd (upd H2 it (junk it)) q (.lst zs)) (by simp [hh]) lit lq hne (fun s' I6 => ⟨rfl, .ref q, _, I6, rfl, qend⟩) _ 0 H2 s4 rfl (Nat.zero_le _) I5 hit4 hl4 (by rw [List.take_zero]; exact hq4) rfl
  refine wpAny_ite_split (fun _ => ?_) (fun _ => wpAny_pure ⟨plainId_quiet PySem.F.plain_extend_loop _, fin s3 I4⟩)
  refine wpAny_bind (wpAny_rule (wpAny_bind ?_))
  obtain ⟨_, its, k4, r4, hl5, e4⟩ := I4.lstM hq4
  cases r4
  refine wpAny_bind (m := updateSeq q (·.push .none)) (wpAny_updateSeq e4 rfl ?_)
  have I5 := I4.lset (f := (·.push Value.none)) (its' := [Value.none]) (ys := [.non]) (t' := s3.toks) hq4 e4 (by simp) (.cons rfl .nil) (by rw [List.length_singleton, sizeLine_eq]; decide)
  obtain ⟨_, its5, k5, r5, hl6, e5⟩ := I5.lstM upd_same
  obtain ⟨u5, rfl, ru5⟩ := r5.one
  refine wpAny_updateSeq (a := q) (f := (·.pop)) e5 rfl ?_ (by show 1 ≤ sizeLine; rw [sizeLine_eq]; decide) (by show 0 ≤ sizeLine + 1; exact Nat.zero_le _)
  have I6 := I5.lset (f := (·.pop)) (its := [u5]) (its' := []) (ys := []) (t' := s3.toks) upd_same e5 (by rfl) .nil (Nat.zero_le _)
  rw [upd_upd, same_upd hq4] at I6
  exact wpAny_pure ⟨plainId_quiet PySem.F.plain_extend_loop _, fin _ I6⟩
end
/-! ### a static method, called by its class's name -/
structure StaC (K : PySem.W.Frag) (C : Addr) (mc : Value) (m : Str) (p g : Addr) : Prop where
  rd : PySem.W.readsIn K C mc = true
  ga : PySem.W.specialIn K (.ref C) "__getattribute__" = some (some (.builtin "type.__getattribute__"))
  at_ : PySem.W.findCls K (.ref C) mc m = some (.get (.builtin "staticmethod.__get__") (.ref p) .none (.ref C))
  rc : ∃ rest, PySem.W.recIn K p "staticmethod" = some (.ref g :: rest)
  kp : PySem.W.keepIn K (.ref g) = true
def tSta (C : Addr) (sp : Sp) (dvs : List V) (E : XK) (ta : TE) (t : TA) : TE := fun σ H Q => ta σ H fun x H1 => x = .ref C ∧ t σ H1 fun vs H2 => sp (vs ++ dvs) H2 Q E
section
variable {X : Cx} {CX : CXT} {C p g : Addr} {mc : Value} {m : Str} {fd : FuncData} {ps : List Str} {sp : Sp} {E : XK} {k : Nat} {o e : Expr} {es : List Expr} {ta : TE} {t : TA} {apos pos : Pos} {dvs : List V} {ds : List Value}
theorem pe_sta {pl : Sem Bool} (he : PE X o ta) (c : StaC X.K C mc m p g) (F : FnOk X.prog X.w X.K X.mg X.base CX k g fd ps sp) (hr : Room k X.A) (hb : Binds X.K fd ps ds) (hd : Vals dvs ds) (hx : Passes CX X E) (ha : PA X (e :: es) t)
    (hst : starEach (e :: es) X.env = (false, eval e X.env) :: starEach es X.env := by rfl) (hpl : (backTo pos (starEach es X.env)).any (·.1) = false := by rfl)
    (ht : eval (.Call (.Attribute o m apos) (e :: es) [] pos) X.env = (eval o X.env >>= fun ov => standAt apos.atName >>= fun _ => holding [ov] (getMethod ov m pl) >>= fun fr => callWith pos fr.1 fr.2 (backTo pos (starEach (e :: es) X.env)) (backToKw pos (keywordEach [] X.env))) := by rfl) :
    PE X (.Call (.Attribute o m apos) (e :: es) [] pos) (tSta C sp dvs E ta t) := by
  refine ⟨fun pins s σ H Q I h => ?_⟩
  refine PySem.W.methodCall_KW (pl := pl) (thn (he.run pins s σ H _ I h) ?_) ht
  rintro u s1 ⟨x, H1, I1, rx, rfl, q⟩
  cases rx
  obtain ⟨rest, hp⟩ := c.rc
  refine PySem.W.method_cls I1.kIn c.ga (PySem.W.cls_bind I1.kIn c.rd c.at_ (wpAny_call ?_))
  refine PySem.W.sm_get (s := { s1 with toks := s1.toks + 1 }) I1.kIn hp (PySem.W.handed_on rfl ?_)
  refine PySem.W.callWith_K (first := []) (h₀ := X.base) I1.ok.mod.kin c.kp (thn (ha.run pos pins _ σ H1 _ (I1.tok _) q) fun us s2 ⟨vs, H2, I2, r, q2⟩ => ⟨I2.kIn, ?_⟩) hst hpl
  exact run_fn F hr hb hd hx I2 r q2
/-- x in t, t a tuple, of data of any depth -/
def rInT (K : PySem.W.Frag) (neg : Bool) : R2 := fun x y H Q => ∃ d ds, Dp K H x d ∧ Dp K H y (.tuple ds) ∧ SeqAt.shaped d = true ∧ SeqAt.shaped (.tuple ds) = true ∧ Q (.bl (if neg then !(ds.any fun z => PyData.eqv z d) else ds.any fun z => PyData.eqv z d)) H
theorem op_inT (hu : X.A.units + 65 < cLine) : OpR X (compareOp .In) (rInT X.K false) := by
  rintro pins s σ H x y v u Q I rx ry ⟨d, ds, hd, he, sd, se, q⟩
  obtain ⟨as, r1⟩ := Dp.reads I d x v hd rx
  obtain ⟨bs, r2⟩ := Dp.reads I (.tuple ds) y u he ry
  exact SeqAt.in_tuple_reads r2 r1 (SeqAt.canLay_of_shaped se) (SeqAt.canLay_of_shaped sd) (room_in_shaped sd hu) ⟨.bl _, H, I, rfl, q⟩
theorem op_notInT (hu : X.A.units + 65 < cLine) : OpR X (compareOp .NotIn) (rInT X.K true) := by
  rintro pins s σ H x y v u Q I rx ry ⟨d, ds, hd, he, sd, se, q⟩
  obtain ⟨as, r1⟩ := Dp.reads I d x v hd rx
  obtain ⟨bs, r2⟩ := Dp.reads I (.tuple ds) y u he ry
  exact SeqAt.notIn_tuple_reads r2 r1 (SeqAt.canLay_of_shaped se) (SeqAt.canLay_of_shaped sd) (room_in_shaped sd hu) ⟨.bl _, H, I, rfl, q⟩
end
end My

set_option Elab.async false
set_option linter.all false
set_option maxRecDepth 100000
set_option maxHeartbeats 4000000
/-! ### slices of mapped lists -/
namespace My
open PySem L2
theorem cut_ij {α : Type} {f : α → V} {ts : List α} {i j : Nat} (h : i ≤ j) : cutV (ts.map f) (some (i : Int)) (some (j : Int)) = ((ts.drop i).take (j - i)).map f := by
  unfold cutV
  rw [HT.sIx_nat, HT.sIx_nat, List.length_map, ← List.map_drop, ← List.map_take]
  congr 1
  rcases Nat.le_total i ts.length with z | z
  · rw [Nat.min_eq_left z]
    rcases Nat.le_total j ts.length with z2 | z2
    · rw [Nat.min_eq_left z2]
    · rw [Nat.min_eq_right z2, List.take_of_length_le (by rw [List.length_drop]; omega), List.take_of_length_le (by rw [List.length_drop]; omega)]
  · rw [Nat.min_eq_right z, List.drop_length, List.drop_of_length_le z]; simp
theorem cut_0j {α : Type} {f : α → V} {ts : List α} {j : Nat} : cutV (ts.map f) none (some (j : Int)) = (ts.take j).map f := by
  have := cut_ij (f := f) (ts := ts) (Nat.zero_le j)
  rw [List.drop_zero, Nat.sub_zero] at this
  exact this
theorem cut_i {α : Type} {f : α → V} {ts : List α} {i : Nat} : cutV (ts.map f) (some (i : Int)) none = (ts.drop i).map f := by
  unfold cutV
  rw [HT.sIx_nat, ← List.map_drop, ← List.map_take]
  congr 1
  show (ts.drop (min i (ts.map f).length)).take ((ts.map f).length - _) = _
  rw [List.length_map]
  rcases Nat.le_total i ts.length with z | z
  · rw [Nat.min_eq_left z, List.take_of_length_le (by rw [List.length_drop]; omega)]
  · rw [Nat.min_eq_right z, List.drop_length, List.drop_of_length_le z]; simp
end My

set_option Elab.async false
set_option linter.all false
set_option maxRecDepth 100000
set_option maxHeartbeats 4000000
/-! ### try with several clauses that bind the error -/
namespace My
open PySem PySem.Spec PyProof.Rows L2
/-- one clause: the class that it names, the slot of its name, its suite's reading -/
structure Cla where
  c : Value
  i : Nat
  ts : Addr → Value → Option Addr → TS
/-- behind a suite the name in slot i is gone -/
def Ends.off (i : Nat) (D : L2.Ends) : L2.Ends where
  nx σ H := D.nx (σ.set i none) H
  rt := D.rt
  bk σ H := D.bk (σ.set i none) H
  ct σ H := D.ct (σ.set i none) H
/-- what clauses, tried in turn, wish -/
def wClas (K : PySem.W.Frag) (W0 : WX) (D : L2.Ends) : List Cla → WX
  | [] => W0
  | k :: ks => fun cls d σ H => ∃ hit, PySem.W.exmOne K cls k.c = some hit ∧ (hit = true → ∀ a, H a = none → k.ts a cls d (Ends.off k.i D) (σ.set k.i (some (.ref a))) H) ∧ (hit = false → wClas K W0 D ks cls d σ H)
/-- the clauses as they are written -/
inductive Clauses (X : Cx) : List ExceptHandler → List Cla → Prop
  | nil : Clauses X [] []
  | cons {k : Cla} {ks : List Cla} {x n : Str} {b1 : Stmt} {bs : List Stmt} {p1 p2 : Pos} {hs : List ExceptHandler} (nm : Names X x k.c) (at_ : X.N[k.i]? = some n) (lo : X.env.kindOf n = some .local)
      (suite : ∀ (a : Addr) (oe : Obj) (cls : Value) (d : Option Addr) (pn : List (Addr × Obj)), Zc cls d oe → (∃ vs, oe.data = .fields vs) → PSs (X.suite a ((a, oe) :: pn)) (b1 :: bs) (k.ts a cls d)) (more : Clauses X hs ks) :
      Clauses X (.ExceptHandler (some (.Name x p1)) (some n) (b1 :: bs) p2 :: hs) (k :: ks)
section
variable {X : Cx} {pins : List (Addr × Obj)} {σ : L2.St} {H : Hp} {s0 sI : Shared} {h3 B : Heap} {a : Addr} {cls : Value} {d : Option Addr} {D : L2.Ends} {W0 : WX}
/-- the clauses are tried, the error being at a -/
theorem clauses_run (top : X.stack = X.env :: X.outer) (fr : X.env.frame = some X.env.locals) (nd : X.N.Nodup) (tk : Takes X W0) (J : Inv X pins σ H sI) (na : H a = none)
    (J' : ∀ h4, HandSPX.FlyingZ B (X.env :: X.outer) a (Zc cls d) h4 → h3.UpToSlots h4 → Inv X pins σ H { s0 with heap := h4 })
    (out : W0 cls d σ H → ∀ (h4 : Heap), HandSPX.HeldZ B (X.env :: X.outer) a (Zc cls d) X.env.locals h4 → h3.UpToSlots h4 → X.xe (.ref a) { s0 with heap := h4 })
    (fl : HandSPX.FlyingZ B (X.env :: X.outer) a (Zc cls d) h3) : ∀ {hs : List ExceptHandler} {ks : List Cla}, Clauses X hs ks → wClas X.K W0 D ks cls d σ H →
      wpAny (model X.prog X.w) X.A (handleBy (.ref a) X.env hs) (SP X pins D) X.xe { s0 with heap := h3 } := by
  have ok := J.ok
  have J3 := J' h3 fl (Heap.UpToSlots.refl _)
  have far : ∀ {h : Heap} {o : Obj} {vs : Array Value}, h.FunFrames B (X.env :: X.outer) → h.get? a = some o → o.data = .fields vs → a ∉ frs (X.env :: X.outer) := by
    intro h o vs ff e dd hm
    obtain ⟨_, o', e', other⟩ := ff.mem hm
    cases e.symm.trans e'
    exact other _ dd
  obtain ⟨oe, vs, he, hz, hd⟩ := fl.there
  have away := far fl.2.2.1 he hd
  have nL : a ≠ X.env.locals := by
    intro z
    exact away (List.mem_filterMap.mpr ⟨X.env, List.mem_cons_self, by rw [fr, z]⟩)
  have nF : a ∉ X.fs := by
    intro hm
    obtain ⟨e, me, q⟩ := List.mem_filterMap.mp hm
    exact away (List.mem_filterMap.mpr ⟨e, List.mem_cons_of_mem _ me, q⟩)
  have S3 := J3.suite he hd na nL nF
  intro hs ks C
  induction C with
  | nil =>
    intro q
    refine wpAny_handleBy_nil ?_
    obtain ⟨_, _, _, o1, v1, T1, _, _, e1, _, d1, f1, _⟩ := id fl
    unfold PySem.passOn
    refine wpAny_bind (wpAny_field e1 d1 f1 ?_)
    rw [if_neg (show ¬ ((Value.ref T1 == Value.none) = true) by simp)]
    have leave : wpAny (model X.prog X.w) X.A (setFlight (.ref a) X.env.frame) (fun _ s4 => wpAny (model X.prog X.w) X.A (throw (.ref a) : Sem Flow) (SP X pins D) X.xe s4) X.xe { s0 with heap := h3 } := by
      rw [fr]
      exact HandSPX.setFlight_upZ fl fun h4 held up => wpAny_throw (out q h4 held up)
    first | exact wpAny_bind (wpAny_pure (wpAny_bind leave)) | exact wpAny_bind leave
  | @cons k ks x n b1 bs p1 p2 hs nm at_ lo suite more ih =>
    rintro ⟨hit, e1, yes, no⟩
    refine wpAny_handleBy_cons (codeAny_handlers_test ?_) (by intro q; cases q)
    have looks : PySem.W.Looks (model X.prog X.w) h3 (typeOf (.ref a)) cls := by
      intro A Q E s kk q
      exact wpAny_typeOf_ref (kk _ _ he) (by rw [hz.1]; exact q)
    have named : ∀ {Q : Value → Shared → Prop} {E : Value → Shared → Prop}, Q k.c { s0 with heap := h3 } → wpAny (model X.prog X.w) (X.A.mark (some (.ref a))) (eval (.Name x p1) X.env) Q E { s0 with heap := h3 } := by
      intro Q E q
      obtain ⟨g1, g2, m1 | ⟨m1, m2, m3⟩⟩ := nm
      · exact ld_glob (X := X.suite a ((a, oe) :: (X.pn ++ pins))) S3 g1 m1 q g2
      · exact ld_blt (X := X.suite a ((a, oe) :: (X.pn ++ pins))) S3 g1 m1 m2 q m3 g2
    refine named ((PySem.W.exm_one (M := model X.prog X.w) J3.kIn looks e1).here ?_)
    cases hit with
    | false => exact (show wpAny _ X.A (handleBy (.ref a) X.env hs) _ _ _ from ih (no rfl))
    | true =>
      refine codeAny_handlers_suite_as (HandSPX.lands_againZ fl fun h4 fl4 up4 => ?_)
      have J4 := J' h4 fl4 up4
      obtain ⟨o4, v4, e4, z4, d4⟩ := fl4.there
      refine store_ok (X := X.suite a ((a, o4) :: (X.pn ++ pins))) (v := .ref a) (J4.suite e4 d4 na nL nF) nd at_ (.inl lo) rfl (fun s5 S5 => ?_) (.inr lo)
      refine wpAny_mono ((suite a o4 cls d (X.pn ++ pins) z4 ⟨_, d4⟩).run [] s5 _ H _ S5 (yes rfl a na)) ?_ fun _ _ z => z.elim
      rintro fl' s6 hsp
      have close : ∀ {τ : L2.St} {G : Hp} {Q : Shared → Prop}, Inv (X.suite a ((a, o4) :: (X.pn ++ pins))) [] τ G s6 → (∀ s7, Inv X pins (τ.set k.i none) G s7 → Q s7) →
          wpAny (model X.prog X.w) X.A (do bindName X.env n .none; unbindBehindTheSuite X.env n p2) (fun _ s7 => Q s7) X.xe s6 := fun S6 hq => gone_ok (S6.unsuite ok) nd at_ lo hq
      cases fl' with
      | ret u =>
        obtain ⟨v, τ, G, S6, r, q⟩ := hsp
        exact close S6 fun s7 J7 => ⟨_, _, _, J7, r, q⟩
      | _ =>
        obtain ⟨τ, G, S6, q⟩ := hsp
        exact close S6 fun s7 J7 => ⟨_, _, J7, q⟩
end
section
variable {X : Cx} {body : List Stmt} {h1 : ExceptHandler} {hs : List ExceptHandler} {ks : List Cla} {pos : Pos} {tb : WX → TS} {W0 : WX}
theorem ps_try_clauses (top : X.stack = X.env :: X.outer) (fr : X.env.frame = some X.env.locals) (nd : X.N.Nodup) (C : Clauses X (h1 :: hs) ks) (tk : Takes X W0)
    (hb : ∀ (W : WX) (pn : List (Addr × Obj)) (xe : Value → Shared → Prop), Takes (X.tr pn xe) W → PassesOwn (model X.prog X.w) X.A X.env xe → PSs (X.tr pn xe) body (tb W)) :
    PS X (.Try body (h1 :: hs) [] [] pos) (fun D σ H => tb (wClas X.K W0 D ks) D σ H) := by
  refine ⟨fun pins s σ H D I q0 => ?_⟩
  have ok := I.ok
  have frames : X.A.frames = some (X.env :: X.outer) := ok.frames.trans (by rw [top])
  let xe1 : Value → Shared → Prop := fun e s1 => wpAny (model X.prog X.w) X.A (noteFrame e X.env) (fun _ s2 => wpAny (model X.prog X.w) X.A (setFlight e none) (fun _ s3 => wpAny (model X.prog X.w) X.A (handleBy e X.env (h1 :: hs)) (SP X pins D) X.xe s3) X.xe s2) X.xe s1
  have takes : Takes (X.tr (X.pn ++ pins) xe1) (wClas X.K W0 D ks) := by
    rintro u s' ⟨a, B, sI, pins', σ', H', cls, d, rfl, J', nb, up, sky, na, os, ag, w⟩
    have J : Inv X pins σ' H' sI := J'.ofTry ok
    have sky' : Sky B (X.env :: X.outer) a (Zc cls d) X.env.locals s'.heap := by rw [← top]; exact sky
    refine Sky.land Zc.steady frames fr sky' fun h3 fl3 up3 => ?_
    refine clauses_run top fr nd tk J na (fun h4 fl4 up4 => J.landed nb fl4.1 ((up.trans up3).trans up4) os ag) (fun w0 h4 held up4 => ?_) fl3 C w
    exact tk _ _ ⟨a, B, sI, pins, σ', H', cls, d, rfl, J, nb, (up.trans up3).trans up4, .inr (.inr (by rw [top]; exact held)), na, os, ag, w0⟩
  refine wpAny_Try_except (wpAny_mono ((hb _ (X.pn ++ pins) xe1 takes PassesOwn.looking).run [] s σ H D (I.toTry _) q0) ?_ fun e s1 he => he)
  rintro f s1 hsp
  cases f with
  | next =>
    obtain ⟨τ, G, J, q⟩ := hsp
    exact wpAny_execs_nil ⟨τ, G, J.ofTry ok, q⟩
  | ret u =>
    obtain ⟨v, τ, G, J, r, q⟩ := hsp
    exact ⟨v, τ, G, J.ofTry ok, r, q⟩
  | _ =>
    obtain ⟨τ, G, J, q⟩ := hsp
    exact ⟨τ, G, J.ofTry ok, q⟩
end
section
variable {X : Cx} {body : List Stmt} {pos : Pos} {tb : WX → TS} {W0 : WX} {x1 n1 x2 n2 x3 n3 : Str} {c1 c2 c3 : Value} {i1 i2 i3 : Nat} {b1 b2 b3 : Stmt} {r1 r2 r3 : List Stmt} {p1 p2 p3 q1 q2 q3 : Pos} {t1 t2 t3 : Addr → Value → Option Addr → TS}
theorem ps_try_as2 (top : X.stack = X.env :: X.outer) (fr : X.env.frame = some X.env.locals) (nd : X.N.Nodup) (a1 : X.N[i1]? = some n1) (a2 : X.N[i2]? = some n2) (l1 : X.env.kindOf n1 = some .local) (l2 : X.env.kindOf n2 = some .local) (m1 : Names X x1 c1) (m2 : Names X x2 c2) (tk : Takes X W0)
    (hb : ∀ (W : WX) (pn : List (Addr × Obj)) (xe : Value → Shared → Prop), Takes (X.tr pn xe) W → PassesOwn (model X.prog X.w) X.A X.env xe → PSs (X.tr pn xe) body (tb W))
    (s1 : ∀ (a : Addr) (oe : Obj) (cls : Value) (d : Option Addr) (pn : List (Addr × Obj)), Zc cls d oe → (∃ vs, oe.data = .fields vs) → PSs (X.suite a ((a, oe) :: pn)) (b1 :: r1) (t1 a cls d))
    (s2 : ∀ (a : Addr) (oe : Obj) (cls : Value) (d : Option Addr) (pn : List (Addr × Obj)), Zc cls d oe → (∃ vs, oe.data = .fields vs) → PSs (X.suite a ((a, oe) :: pn)) (b2 :: r2) (t2 a cls d)) :
    PS X (.Try body [.ExceptHandler (some (.Name x1 p1)) (some n1) (b1 :: r1) q1, .ExceptHandler (some (.Name x2 p2)) (some n2) (b2 :: r2) q2] [] [] pos) (fun D σ H => tb (wClas X.K W0 D [⟨c1, i1, t1⟩, ⟨c2, i2, t2⟩]) D σ H) :=
  ps_try_clauses top fr nd (.cons m1 a1 l1 s1 (.cons m2 a2 l2 s2 .nil)) tk hb
theorem ps_try_as3 (top : X.stack = X.env :: X.outer) (fr : X.env.frame = some X.env.locals) (nd : X.N.Nodup) (a1 : X.N[i1]? = some n1) (a2 : X.N[i2]? = some n2) (a3 : X.N[i3]? = some n3) (l1 : X.env.kindOf n1 = some .local) (l2 : X.env.kindOf n2 = some .local) (l3 : X.env.kindOf n3 = some .local)
    (m1 : Names X x1 c1) (m2 : Names X x2 c2) (m3 : Names X x3 c3) (tk : Takes X W0)
    (hb : ∀ (W : WX) (pn : List (Addr × Obj)) (xe : Value → Shared → Prop), Takes (X.tr pn xe) W → PassesOwn (model X.prog X.w) X.A X.env xe → PSs (X.tr pn xe) body (tb W))
    (s1 : ∀ (a : Addr) (oe : Obj) (cls : Value) (d : Option Addr) (pn : List (Addr × Obj)), Zc cls d oe → (∃ vs, oe.data = .fields vs) → PSs (X.suite a ((a, oe) :: pn)) (b1 :: r1) (t1 a cls d))
    (s2 : ∀ (a : Addr) (oe : Obj) (cls : Value) (d : Option Addr) (pn : List (Addr × Obj)), Zc cls d oe → (∃ vs, oe.data = .fields vs) → PSs (X.suite a ((a, oe) :: pn)) (b2 :: r2) (t2 a cls d))
    (s3 : ∀ (a : Addr) (oe : Obj) (cls : Value) (d : Option Addr) (pn : List (Addr × Obj)), Zc cls d oe → (∃ vs, oe.data = .fields vs) → PSs (X.suite a ((a, oe) :: pn)) (b3 :: r3) (t3 a cls d)) :
    PS X (.Try body [.ExceptHandler (some (.Name x1 p1)) (some n1) (b1 :: r1) q1, .ExceptHandler (some (.Name x2 p2)) (some n2) (b2 :: r2) q2, .ExceptHandler (some (.Name x3 p3)) (some n3) (b3 :: r3) q3] [] [] pos) (fun D σ H => tb (wClas X.K W0 D [⟨c1, i1, t1⟩, ⟨c2, i2, t2⟩, ⟨c3, i3, t3⟩]) D σ H) :=
  ps_try_clauses top fr nd (.cons m1 a1 l1 s1 (.cons m2 a2 l2 s2 (.cons m3 a3 l3 s3 .nil))) tk hb
end
end My

set_option Elab.async false
set_option linter.all false
set_option maxRecDepth 100000
set_option maxHeartbeats 4000000
/-! ### a quiet def, whatever exception is handled around its call -/
namespace My
open PySem PySem.Spec PyProof.Rows L2
structure RoomZ (k : Nat) (A : Around) : Prop where
  dep : A.depth + 3 * k + 5 < recursionLimit
  uni : A.units + 16 * k + 200 < cLine
/-- the room behind a mark is that ahead of it -/
theorem roomZ_mark {k : Nat} {A : Around} {v : Option Value} (r : Room k A) : RoomZ k (A.mark v) := ⟨r.dp, r.un⟩
def cxZ (CX : CXT) (P : Program) (w : World) (K : PySem.W.Frag) (mg : Str → Option Value) (base : Heap) (N : List Str) (qual : Str) (sc : Scope) (f : Addr) (cd : Value) (A : Around) (outer : List Env) (s : Shared) (H : Hp) (E : XK) : Cx := { cxOf CX P w K mg base N qual sc f cd A outer s H E with calm := false }
structure FnZ (P : Program) (w : World) (K : PySem.W.Frag) (mg : Str → Option Value) (base : Heap) (CX : CXT) (k : Nat) (f : Addr) (fd : FuncData) (ps : List Str) (sp : Sp) : Prop where
  len : ∀ vs H Q E, sp vs H Q E → vs.length = ps.length
  run : ∀ (A : Around) (outer : List Env) (s : Shared) (H : Hp) (ar : Args) (us : List Value) (vs : List V) (Q : VK) (E : XK), RoomZ k A → Env0 P w K mg base A outer s H → BindsTo s fd ar (ps.zip us) → Vals vs us → sp vs H Q E → codeAny (model P w) A (.call (.ref f) ar) (CR CX outer P w H s Q E) s
section
variable {CX : CXT} {P : Program} {w : World} {K : PySem.W.Frag} {mg : Str → Option Value} {base : Heap} {N ps : List Str} {qual : Str} {sc : Scope} {f : Addr} {cd : Value} {k : Nat} {sp : Sp}
theorem e0_free {A : Around} {outer : List Env} {s : Shared} {H : Hp} (e : Env0 P w K mg base A outer s H) : Env0 P w K mg base { A with handled := none } outer s H := ⟨e.frames, e.mod, e.bs, e.bsz, e.funs, e.frf, e.hok, e.bare⟩
theorem inv_startZ {A : Around} {outer : List Env} {s s1 : Shared} {H : Hp} {E : XK} {us : List Value} {vs : List V} (S : FnScope N ps sc) (e0 : Env0 P w K mg base A outer s H) (hl : vs.length = ps.length) (r : Vals vs us)
    (x : InCallC s s.heap.objs.size (bindL (envOfC qual sc s.heap.objs.size f cd).kindOf (ps.zip us) fun _ => none) (cellsFrom (s.heap.objs.size + 1) sc.names []) (bindC (envOfC qual sc s.heap.objs.size f cd).kindOf (ps.zip us) fun _ => none) s1) : Inv (cxZ CX P w K mg base N qual sc f cd A outer s H E) [] (L2.start N vs) H s1 := by
  have J := inv_start (CX := CX) (E := E) (A := { A with handled := none }) S rfl (e0_free e0) hl r x
  have o := J.ok
  exact ⟨⟨o.mod, o.kind, o.glob, o.blt, o.above, o.inj, o.has, o.cab, fun z => (by cases z), Around.frames_deeper e0.frames, o.stk, o.exf, o.bs, o.bsz, o.noex, o.exfs, o.funs, o.frf⟩, J.os, J.bare, J.base, J.loc, J.cell, J.free, J.freeC, J.pin, J.hok, J.len⟩
theorem fn_ofZ {name : Str} {params : Arguments} {body : List Stmt} {dV kV doc pm ct oc : Value} {an od : Option Addr} {osl : Array (Option Value)} (lk : K.lookup f = some ⟨oc, od, .func (PySem.W.fnOf name qual params body sc dV kV doc pm an cd ct), osl⟩) (hcd : PySem.W.codeIn K cd qual = true) (S : FnScope N ps sc)
    (len : ∀ vs H Q E, sp vs H Q E → vs.length = ps.length)
    (todo : ∀ (A : Around) (outer : List Env) (s : Shared) (H : Hp) (vs : List V) (Q : VK) (E : XK), sp vs H Q E → ∃ t, PSs (cxZ CX P w K mg base N qual sc f cd A outer s H E) body t ∧ t { nx := fun _ H' => Q .non H', rt := Q } (L2.start N vs) H) :
    FnZ P w K mg base CX (k + 1) f (PySem.W.fnOf name qual params body sc dV kV doc pm an cd ct) ps sp := by
  refine ⟨len, fun A outer s H ar us vs Q E room e0 bnd vals hsp => ?_⟩
  have kin : K.In s.heap := e0.mod.kin.keeps fun b o z => (e0.bs b o z).1
  have nolim : s.heap.NoLimit := e0.mod.nolimit.keeps fun b o z => (e0.bs b o z).1
  have dep : A.depth < recursionLimit := by
    have := room.dep
    omega
  refine codeAny_call_function dep (kin _ _ lk) rfl S.co S.gen rfl (PySem.W.codeRec_of kin hcd) (bnd _ _ _ _ ?_)
  have kinds : ∀ y ∈ ps.zip us, sc.names.lookup y.1 = some .local ∨ (sc.names.lookup y.1 = some .cell ∧ ((cellsFrom (s.heap.objs.size + 1) sc.names []).lookup y.1).isSome = true) := fun ⟨n, v⟩ hy =>
    (S.par n (List.of_mem_zip hy).1).imp id fun z => ⟨z, PySem.W.cellsFrom_some _ _ _ (.inl z)⟩
  refine wpAny_newFunctionEnv_cells S.kind kinds fun env he s1 x => ?_
  cases he
  refine ⟨nolim.keeps x.toInCall.keep, codeAny_func ?_⟩
  obtain ⟨t, ht, hq⟩ := todo A outer s H vs Q E hsp
  have I := inv_startZ (CX := CX) (E := E) (cd := cd) S e0 (len _ _ _ _ hsp) vals x
  refine wpAny_mono (ht.run [] s1 (L2.start N vs) H _ I hq) (fun fl s' done => ?_) fun e s' z => z
  cases fl with
  | ret u =>
    obtain ⟨v, σ', H', J, rv, z⟩ := done
    exact ⟨v, H', J.os, J.bare, J.base, J.hok, rv, z⟩
  | next =>
    obtain ⟨σ', H', J, z⟩ := done
    exact ⟨V.non, H', J.os, J.bare, J.base, J.hok, rfl, z⟩
  | brk => obtain ⟨_, _, _, z⟩ := done; exact z.elim
  | cont => obtain ⟨_, _, _, z⟩ := done; exact z.elim
end
section
variable {X : Cx} {CX : CXT} {k : Nat} {f : Addr} {fd : FuncData} {ps : List Str} {sp : Sp} {E : L2.St → XK} {x : Str} {q pos : Pos} {e : Expr} {es : List Expr} {t : TA}
theorem pe_callZ (F : FnZ X.prog X.w X.K X.mg X.base CX k f fd ps sp) (hr : RoomZ k X.A) (hg : Gl X x) (hm : X.mg x = some (.ref f)) (hk : PySem.W.keepIn X.K (.ref f) = true) (hb : Binds X.K fd ps []) (hx : ∀ σ, PassesAt CX X σ (E σ))
    (ha : PA X (e :: es) t) (hdb : (x == ("__debug__" : Str)) = false := by decide) (he : starEach (e :: es) X.env = (false, eval e X.env) :: starEach es X.env := by rfl) (hpl : (backTo pos (starEach es X.env)).any (·.1) = false := by rfl) : PE X (.Call (.Name x q) (e :: es) [] pos) (tCallS sp E t) := by
  refine ⟨fun pins s σ H Q I h => wpAny_Call_Name_kw (ld_glob I hg hm (PySem.W.callWith_K (h₀ := X.base) I.ok.mod.kin hk (thn (ha.run pos pins s σ H _ I h) fun us s1 ⟨vs, H1, I1, r, z⟩ => ⟨I1.kIn, ?_⟩) he hpl) hdb)⟩
  have hl : us.length = ps.length := r.length.symm.trans (F.len _ _ _ _ z)
  have b := hb s1 us I1.kIn (by rw [List.append_nil]; exact hl)
  rw [List.append_nil] at b
  refine wpAny_call (codeAny_mono (F.run X.A X.stack s1 H1 ⟨us, []⟩ us vs Q (E σ) hr I1.env0 b r z) fun r s' hq => ?_)
  cases r with
  | error e => exact hx σ pins H1 s1 e s' I1 hq
  | ok fl => cases fl with
    | ret u => exact I1.after hq
    | next => exact hq.elim
    | brk => exact hq.elim
    | cont => exact hq.elim
end
end My

set_option Elab.async false
set_option linter.all false
set_option maxRecDepth 100000
set_option maxHeartbeats 4000000
/-! ### the error that is handled, handed to an own def -/
namespace My
open PySem PySem.Spec PyProof.Rows L2 NdefX

section
variable {X : Cx} {a : Addr} {oe : Obj} {cls : Value} {d : Option Addr}
theorem inst_p {pins : List (Addr × Obj)} {s : Shared} {σ : L2.St} {H : Hp} {D dd : Addr} {fs : List (Str × V)} (I : Inv X pins σ H s) (hm : (a, oe) ∈ X.pn) (hz : Zc (.ref D) (some dd) oe) (hf : ∃ vs, oe.data = .fields vs) (e : H dd = some (.xd fs)) : ∃ od, PySem.W.InstAt s.heap a oe D (some od) := by
  obtain ⟨ha, _⟩ := I.pin (a, oe) (List.mem_append_left _ hm)
  obtain ⟨vs, hv⟩ := hf
  obtain ⟨mA, hns, _⟩ := (show ObjOk X.prog X.w H s.heap dd (.xd fs) from I.hok dd _ e)
  obtain ⟨od, ho, _⟩ := lookIn_ns hns
  exact ⟨od, ha, hz.1, by unfold PySem.W.notCls; rw [hv] <;> rfl, by rw [hz.2]; exact ho⟩
theorem call_isP (hm : (a, oe) ∈ X.pn) (hz : Zc cls d oe) (hf : ∃ vs, oe.data = .fields vs) : CallR X (.builtin "isinstance") (rIsX X.K a cls d) := by
  intro pins s σ H xs us Q I r h
  obtain ⟨c, cv, b, D, dd, fs, rfl, hcv, rfl, rfl, ed, T, e, q⟩ := h
  obtain ⟨u1, u2, rfl, r1, r2⟩ := vals2 r
  cases (show u1 = Value.ref a from r1)
  cases hcv _ r2
  obtain ⟨od, J⟩ := inst_p I hm hz hf ed
  exact PySem.W.kia_one (PySem.W.kitx_exc T.cl T.ga T.gg T.bx T.hc T.hn T.ht T.ob) I.kIn J e (fun z => nomatch z) fun tk => ⟨.bl b, H, I.tok tk, rfl, q⟩
theorem pe_xfP {C : Addr} {e : Expr} {te : TE} {pos : Pos} {n : Str} (T : XfC X.K C) (hno : PySem.W.findIn X.K (.ref C) n = some none)
    (hm : (a, oe) ∈ X.pn) (hz : Zc cls d oe) (hf : ∃ vs, oe.data = .fields vs) (he : PE X e te) (hb : attributeBase e n X.env (eval e X.env) = eval e X.env := by rfl) :
    PE X (.Attribute e n pos) (tXf a cls d C n te) := by
  refine ⟨fun pins s σ H Q I h => ?_⟩
  refine attr_of hb (thn (he.run pins s σ H _ I h) fun u s1 hh => ?_)
  obtain ⟨x, H1, I1, rx, ex, ec, dd, fs, v, ed, ea, l, q⟩ := hh
  subst ex
  obtain rfl : u = Value.ref a := rx
  subst ec
  subst ed
  obtain ⟨ha, _⟩ := I1.pin (a, oe) (List.mem_append_left _ hm)
  obtain ⟨vs, hd⟩ := hf
  have hx : ObjOk X.prog X.w H1 s1.heap dd (.xd fs) := I1.hok dd _ ea
  obtain ⟨mA, hns, hr⟩ := hx
  obtain ⟨od, ho, hl⟩ := lookIn_ns hns
  obtain ⟨u, hu, ru⟩ := RelO.some_of (v := v) (o := mA n) (by rw [← l]; exact hr n)
  have J : PySem.W.InstAt s1.heap a oe C (some od) := ⟨ha, hz.1, by unfold PySem.W.notCls; rw [hd] <;> rfl, by rw [hz.2]; exact ho⟩
  exact HandSPX.exc_get I1.kIn J T.ga T.gg T.exC (PySem.W.findObj_own T.hdC hno rfl (by rw [hl, hu])) (handed_of ru) ⟨v, H1, I1.tok _, ru, q⟩
end
theorem RoomZ.mono {j k : Nat} {A : Around} (r : RoomZ k A) (h : j ≤ k) : RoomZ j A := ⟨by have := r.dep; omega, by have := r.uni; omega⟩
theorem RoomZ.deeper {k : Nat} {A : Around} (r : RoomZ (k + 1) A) (env : Env) : RoomZ k (A.deeper env) :=
  ⟨by have := r.dep; show A.depth + 1 + 3 * k + 5 < _; omega, by have := r.uni; show A.units + 3 + 16 * k + 200 < _; omega⟩
theorem RoomZ.units {k : Nat} {A : Around} (r : RoomZ k A) : A.units + 64 < cLine := by have := r.uni; omega
theorem RoomZ.units0 {k : Nat} {A : Around} (r : RoomZ k A) : A.units + 1 < cLine := by have := r.uni; omega
def cxZE (CX : CXT) (P : Program) (w : World) (K : PySem.W.Frag) (mg : Str → Option Value) (base : Heap) (N : List Str) (qual : Str) (sc : Scope) (f : Addr) (cd : Value) (A : Around) (outer : List Env) (s : Shared) (H : Hp) (E : XK) (pn : List (Addr × Obj)) : Cx := { cxOf CX P w K mg base N qual sc f cd A outer s H E with calm := false, pn := pn }
/-- what is known of the error, as it stands -/
structure Held (s : Shared) (H : Hp) (outer : List Env) (a : Addr) (oe : Obj) (cls : Value) (d : Option Addr) : Prop where
  z : Zc cls d oe
  f : ∃ vs, oe.data = .fields vs
  at_ : s.heap.get? a = some oe
  no : H a = none
  fr : a ∉ frs outer
structure FnZE (P : Program) (w : World) (K : PySem.W.Frag) (mg : Str → Option Value) (base : Heap) (CX : CXT) (k : Nat) (f : Addr) (fd : FuncData) (ps : List Str) (sp : Addr → Value → Option Addr → Sp) : Prop where
  len : ∀ a cls d vs H Q E, sp a cls d vs H Q E → vs.length = ps.length
  run : ∀ (A : Around) (outer : List Env) (s : Shared) (H : Hp) (ar : Args) (us : List Value) (vs : List V) (Q : VK) (E : XK) (a : Addr) (oe : Obj) (cls : Value) (d : Option Addr), RoomZ k A → Env0 P w K mg base A outer s H → BindsTo s fd ar (ps.zip us) → Vals vs us → Held s H outer a oe cls d → sp a cls d vs H Q E → codeAny (model P w) A (.call (.ref f) ar) (CR CX outer P w H s Q E) s
section
variable {CX : CXT} {P : Program} {w : World} {K : PySem.W.Frag} {mg : Str → Option Value} {base : Heap} {N ps : List Str} {qual : Str} {sc : Scope} {f : Addr} {cd : Value} {k : Nat} {sp : Addr → Value → Option Addr → Sp}
theorem inv_startZE {A : Around} {outer : List Env} {s s1 : Shared} {H : Hp} {E : XK} {us : List Value} {vs : List V} {a : Addr} {oe : Obj} {cls : Value} {d : Option Addr} (S : FnScope N ps sc) (e0 : Env0 P w K mg base A outer s H) (hl : vs.length = ps.length) (r : Vals vs us) (h : Held s H outer a oe cls d)
    (x : InCallC s s.heap.objs.size (bindL (envOfC qual sc s.heap.objs.size f cd).kindOf (ps.zip us) fun _ => none) (cellsFrom (s.heap.objs.size + 1) sc.names []) (bindC (envOfC qual sc s.heap.objs.size f cd).kindOf (ps.zip us) fun _ => none) s1) : Inv (cxZE CX P w K mg base N qual sc f cd A outer s H E [(a, oe)]) [] (L2.start N vs) H s1 := by
  have J := inv_startZ (CX := CX) (E := E) S e0 hl r x
  have o := J.ok
  refine ⟨⟨o.mod, o.kind, o.glob, o.blt, o.above, o.inj, o.has, o.cab, fun z => (by cases z), o.frames, o.stk, o.exf, o.bs, o.bsz, o.noex, o.exfs, o.funs, o.frf⟩, J.os, J.bare, J.base, J.loc, J.cell, J.free, J.freeC, fun p hp => ?_, J.hok, J.len⟩
  have hp' : p ∈ [(a, oe)] := by simpa [cxZE] using hp
  rw [List.mem_singleton.mp hp']
  obtain ⟨vs', hv⟩ := h.f
  have lt := Heap.lt_size h.at_
  exact ⟨x.toInCall.keep _ _ h.at_, h.no, fun z => absurd lt (by rw [show a = s.heap.objs.size from z]; exact Nat.lt_irrefl _), h.fr, fun v z => by rw [show oe.data = .cell v from z] at hv; cases hv⟩
theorem fn_ofZE {name : Str} {params : Arguments} {body : List Stmt} {dV kV doc pm ct oc : Value} {an od : Option Addr} {osl : Array (Option Value)} (lk : K.lookup f = some ⟨oc, od, .func (PySem.W.fnOf name qual params body sc dV kV doc pm an cd ct), osl⟩) (hcd : PySem.W.codeIn K cd qual = true) (S : FnScope N ps sc)
    (len : ∀ a cls d vs H Q E, sp a cls d vs H Q E → vs.length = ps.length)
    (todo : ∀ (A : Around) (outer : List Env) (s : Shared) (H : Hp) (vs : List V) (Q : VK) (E : XK) (a : Addr) (oe : Obj) (cls : Value) (d : Option Addr), RoomZ k (A.deeper (envOfC qual sc s.heap.objs.size f cd)) → Zc cls d oe → (∃ vs, oe.data = .fields vs) → sp a cls d vs H Q E → ∃ t, PSs (cxZE CX P w K mg base N qual sc f cd A outer s H E [(a, oe)]) body t ∧ t { nx := fun _ H' => Q .non H', rt := Q } (L2.start N vs) H) :
    FnZE P w K mg base CX (k + 1) f (PySem.W.fnOf name qual params body sc dV kV doc pm an cd ct) ps sp := by
  refine ⟨len, fun A outer s H ar us vs Q E a oe cls d room e0 bnd vals held hsp => ?_⟩
  have kin : K.In s.heap := e0.mod.kin.keeps fun b o z => (e0.bs b o z).1
  have nolim : s.heap.NoLimit := e0.mod.nolimit.keeps fun b o z => (e0.bs b o z).1
  have dep : A.depth < recursionLimit := by
    have := room.dep
    omega
  refine codeAny_call_function dep (kin _ _ lk) rfl S.co S.gen rfl (PySem.W.codeRec_of kin hcd) (bnd _ _ _ _ ?_)
  have kinds : ∀ y ∈ ps.zip us, sc.names.lookup y.1 = some .local ∨ (sc.names.lookup y.1 = some .cell ∧ ((cellsFrom (s.heap.objs.size + 1) sc.names []).lookup y.1).isSome = true) := fun ⟨n, v⟩ hy =>
    (S.par n (List.of_mem_zip hy).1).imp id fun z => ⟨z, PySem.W.cellsFrom_some _ _ _ (.inl z)⟩
  refine wpAny_newFunctionEnv_cells S.kind kinds fun env he s1 x => ?_
  cases he
  refine ⟨nolim.keeps x.toInCall.keep, codeAny_func ?_⟩
  obtain ⟨t, ht, hq⟩ := todo A outer s H vs Q E a oe cls d (room.deeper _) held.z held.f hsp
  have I := inv_startZE (CX := CX) (E := E) (cd := cd) S e0 (len _ _ _ _ _ _ _ hsp) vals held x
  refine wpAny_mono (ht.run [] s1 (L2.start N vs) H _ I hq) (fun fl s' done => ?_) fun e s' z => z
  cases fl with
  | ret u =>
    obtain ⟨v, σ', H', J, rv, z⟩ := done
    exact ⟨v, H', J.os, J.bare, J.base, J.hok, rv, z⟩
  | next =>
    obtain ⟨σ', H', J, z⟩ := done
    exact ⟨V.non, H', J.os, J.bare, J.base, J.hok, rfl, z⟩
  | brk => obtain ⟨_, _, _, z⟩ := done; exact z.elim
  | cont => obtain ⟨_, _, _, z⟩ := done; exact z.elim
/-- .. where no error is handed on, but with the room told -/
theorem fn_ofZR {sp : Sp} {name : Str} {params : Arguments} {body : List Stmt} {dV kV doc pm ct oc : Value} {an od : Option Addr} {osl : Array (Option Value)} (lk : K.lookup f = some ⟨oc, od, .func (PySem.W.fnOf name qual params body sc dV kV doc pm an cd ct), osl⟩) (hcd : PySem.W.codeIn K cd qual = true) (S : FnScope N ps sc)
    (len : ∀ vs H Q E, sp vs H Q E → vs.length = ps.length)
    (todo : ∀ (A : Around) (outer : List Env) (s : Shared) (H : Hp) (vs : List V) (Q : VK) (E : XK), RoomZ k (A.deeper (envOfC qual sc s.heap.objs.size f cd)) → sp vs H Q E → ∃ t, PSs (cxZ CX P w K mg base N qual sc f cd A outer s H E) body t ∧ t { nx := fun _ H' => Q .non H', rt := Q } (L2.start N vs) H) :
    FnZ P w K mg base CX (k + 1) f (PySem.W.fnOf name qual params body sc dV kV doc pm an cd ct) ps sp := by
  refine ⟨len, fun A outer s H ar us vs Q E room e0 bnd vals hsp => ?_⟩
  have kin : K.In s.heap := e0.mod.kin.keeps fun b o z => (e0.bs b o z).1
  have nolim : s.heap.NoLimit := e0.mod.nolimit.keeps fun b o z => (e0.bs b o z).1
  have dep : A.depth < recursionLimit := by
    have := room.dep
    omega
  refine codeAny_call_function dep (kin _ _ lk) rfl S.co S.gen rfl (PySem.W.codeRec_of kin hcd) (bnd _ _ _ _ ?_)
  have kinds : ∀ y ∈ ps.zip us, sc.names.lookup y.1 = some .local ∨ (sc.names.lookup y.1 = some .cell ∧ ((cellsFrom (s.heap.objs.size + 1) sc.names []).lookup y.1).isSome = true) := fun ⟨n, v⟩ hy =>
    (S.par n (List.of_mem_zip hy).1).imp id fun z => ⟨z, PySem.W.cellsFrom_some _ _ _ (.inl z)⟩
  refine wpAny_newFunctionEnv_cells S.kind kinds fun env he s1 x => ?_
  cases he
  refine ⟨nolim.keeps x.toInCall.keep, codeAny_func ?_⟩
  obtain ⟨t, ht, hq⟩ := todo A outer s H vs Q E (room.deeper _) hsp
  have I := inv_startZ (CX := CX) (E := E) (cd := cd) S e0 (len _ _ _ _ hsp) vals x
  refine wpAny_mono (ht.run [] s1 (L2.start N vs) H _ I hq) (fun fl s' done => ?_) fun e s' z => z
  cases fl with
  | ret u =>
    obtain ⟨v, σ', H', J, rv, z⟩ := done
    exact ⟨v, H', J.os, J.bare, J.base, J.hok, rv, z⟩
  | next =>
    obtain ⟨σ', H', J, z⟩ := done
    exact ⟨V.non, H', J.os, J.bare, J.base, J.hok, rfl, z⟩
  | brk => obtain ⟨_, _, _, z⟩ := done; exact z.elim
  | cont => obtain ⟨_, _, _, z⟩ := done; exact z.elim
/-- nothing asks for it -/
theorem fnZ_no {sp : Sp} {f : Addr} {fd : FuncData} {k : Nat} (h : ∀ vs H Q E, ¬ sp vs H Q E) : FnZ P w K mg base CX k f fd ps sp := ⟨fun vs H Q E z => absurd z (h _ _ _ _), fun _ _ _ _ _ _ _ _ _ _ _ _ _ z => absurd z (h _ _ _ _)⟩
end
section
variable {X : Cx} {CX : CXT} {k : Nat} {f : Addr} {fd : FuncData} {ps : List Str} {sp : Addr → Value → Option Addr → Sp} {E : L2.St → XK} {x : Str} {q pos : Pos} {e : Expr} {es : List Expr} {t : TA} {a : Addr} {oe : Obj} {cls : Value} {d : Option Addr}
theorem pe_callZE (hmp : (a, oe) ∈ X.pn) (hz : Zc cls d oe) (hf : ∃ vs, oe.data = .fields vs) (F : FnZE X.prog X.w X.K X.mg X.base CX k f fd ps sp) (hr : RoomZ k X.A) (hg : Gl X x) (hm : X.mg x = some (.ref f)) (hk : PySem.W.keepIn X.K (.ref f) = true) (hb : Binds X.K fd ps []) (hx : ∀ σ, PassesAt CX X σ (E σ))
    (ha : PA X (e :: es) t) (hdb : (x == ("__debug__" : Str)) = false := by decide) (he : starEach (e :: es) X.env = (false, eval e X.env) :: starEach es X.env := by rfl) (hpl : (backTo pos (starEach es X.env)).any (·.1) = false := by rfl) : PE X (.Call (.Name x q) (e :: es) [] pos) (tCallS (sp a cls d) E t) := by
  refine ⟨fun pins s σ H Q I h => wpAny_Call_Name_kw (ld_glob I hg hm (PySem.W.callWith_K (h₀ := X.base) I.ok.mod.kin hk (thn (ha.run pos pins s σ H _ I h) fun us s1 ⟨vs, H1, I1, r, z⟩ => ⟨I1.kIn, ?_⟩) he hpl) hdb)⟩
  have hl : us.length = ps.length := r.length.symm.trans (F.len _ _ _ _ _ _ _ z)
  have b := hb s1 us I1.kIn (by rw [List.append_nil]; exact hl)
  rw [List.append_nil] at b
  obtain ⟨p1, p2, p3, p4, p5⟩ := I1.pin (a, oe) (List.mem_append_left _ hmp)
  have fr : a ∉ frs X.stack := by
    rcases I1.ok.stk with e | ⟨e, ef⟩
    · rw [e]; exact p4
    · rw [e]
      unfold frs
      rw [List.filterMap_cons, ef]
      intro z
      rcases List.mem_cons.mp z with z | z
      · exact p3 z
      · exact p4 z
  refine wpAny_call (codeAny_mono (F.run X.A X.stack s1 H1 ⟨us, []⟩ us vs Q (E σ) a oe cls d hr I1.env0 b r ⟨hz, hf, p1, p2, fr⟩ z) fun r s' hq => ?_)
  cases r with
  | error e => exact hx σ pins H1 s1 e s' I1 hq
  | ok fl => cases fl with
    | ret u => exact I1.after hq
    | next => exact hq.elim
    | brk => exact hq.elim
    | cont => exact hq.elim
end
end My

set_option Elab.async false
set_option linter.all false
set_option maxRecDepth 100000
set_option maxHeartbeats 4000000
/-! ### errors whose context is None; a comprehension over range while such an error is handled -/
namespace My
open PySem PySem.Spec PyProof.Rows L2 NdefX L2H
/-- the new error of an own class: its context is None -/
theorem pmk_oexN {X : Cx} {CX : CXT} {e : Expr} {es : List Expr} {ta : TA} {p pos : Pos} {x : Str} {C fI : Addr} {k : Nat} {fd : FuncData} {ps : List Str} {sp : Sp} {ds : List Value} {dvs : List V} (T : OexC X.K C) (iC : PySem.W.findIn X.K (.ref C) "__init__" = some (some (.ref fI))) (tI : PySem.W.typeIn X.K (.ref fI) = some (.type "function"))
    (G : FnOk X.prog X.w X.K X.mg X.base CX k fI fd ps sp) (hr : Room (k + 1) X.A) (hb : Binds X.K fd ps ds) (hd : Vals dvs ds) (hx : Passes CX X (fun _ _ _ => False)) (hg : Gl X x) (hm : X.mg x = some (.ref C)) (ha : PA X (e :: es) ta)
    (hdb : (x == ("__debug__" : Str)) = false := by decide) (he : starEach (e :: es) X.env = (false, eval e X.env) :: starEach es X.env := by rfl) (hpl : (backTo pos (starEach es X.env)).any (·.1) = false := by rfl) :
    L2N.PMk X (.Call (.Name x p) (e :: es) [] pos) (tMkO C sp dvs ta) := by
  intro pins s σ H Q I q0
  obtain ⟨nm, qn, N, bs, bm, sn, sub, ab, col, dd, m0, m1, m2, m3, m5, isC, refs⟩ := T.cls
  refine wpAny_Call_Name_kw (ld_glob I hg hm (PySem.W.callWith_K (h₀ := X.base) I.ok.mod.kin T.kC (thn (ha.run pos pins s σ H _ I q0) fun us s1 h1 => ?_) he hpl) hdb)
  obtain ⟨vs, H1, I1, rv, len, want⟩ := h1
  refine ⟨I1.kIn, show wpAny _ _ (call (.ref C) us) _ _ _ from ?_⟩
  rcases s1 with ⟨h0, gn, dw, tk, os⟩
  have up : h0.objs.size ≤ h0.objs.size + 1 := Nat.le_succ _
  have told := want _ (I1.hok.fresh up)
  have stay : ∀ b o, h0.get? b = some o → ((h0.push (PySem.W.kdv_tup us)).push (PySem.HandSPX.excO C h0.objs.size)).get? b = some o := fun b o z => Heap.get?_push_of_some _ (Heap.get?_push_of_some _ z)
  have itself : ((h0.push (PySem.W.kdv_tup us)).push (PySem.HandSPX.excO C h0.objs.size)).get? (h0.objs.size + 1) = some (PySem.HandSPX.excO C h0.objs.size) := by heap_get
  have I2 := I1.laid (t' := tk) (o := exo (h0.objs.size + 1) C none) stay up (exo_ok itself)
  have rel : Vals (V.ref (h0.objs.size + 1) :: (vs ++ dvs)) (Value.ref (h0.objs.size + 1) :: (us ++ ds)) := .cons rfl (rv.append hd)
  have many : (Value.ref (h0.objs.size + 1) :: us ++ ds).length = ps.length := rel.length.symm.trans (G.len _ _ _ _ told)
  have few : us.length ≤ sizeLine := by
    have := Paired.length rv
    rw [sizeLine_eq]; omega
  have run := G.run _ X.stack _ _ ⟨Value.ref (h0.objs.size + 1) :: us, []⟩ (Value.ref (h0.objs.size + 1) :: (us ++ ds)) _ _ (fun _ _ _ => False) (hr.make C us []) (I2.env0.make C us []) (hb _ (Value.ref (h0.objs.size + 1) :: us) I2.kIn many) rel told
  refine wpAny_call (PySem.HandSPX.call_own F.excBase_ValueError (fun Y => PySem.HandSPX.refsVE_contains Y bm refs) (I1.kIn _ _ isC) (PySem.W.looks_findIn I1.kIn iC) (fun self => PySem.W.bind_fn I1.kIn self tI) few (codeAny_mono run fun r s2 hr2 => ?_))
  rcases r with er | fl
  · exact hx pins σ _ _ er s2 I2 hr2
  · cases fl with
    | ret u =>
      obtain ⟨v, H2, o2, b2, un2, hk2, rv2, ev, dct, fs, ea, ed, nd, q2⟩ := hr2
      subst ev
      rcases s2 with ⟨h2, g2, w2, t2, os2⟩
      refine ⟨rv2, ?_⟩
      obtain ⟨t0, G0, J, kG, ge, hoe, na⟩ := mk_end0 (d2 := w2) (t2 := t2) I1 up stay un2 hk2 o2 b2 ea ed nd
      exact ⟨_, _, _, ⟨G0, g2, w2, t2, os2⟩, _, .ref C, some dct, rfl, J, kG, ge, hoe, ⟨rfl, rfl, fun w z => by cases z; rfl⟩, rfl, rfl, na, rfl, b2, raises_own T.exC T.tyC, q2⟩
    | _ => exact hr2.elim
/-! the clauses of a try, where the errors' context is None -/
/-- the clauses as they are written -/
inductive ClausesN (X : Cx) : List ExceptHandler → List Cla → Prop
  | nil : ClausesN X [] []
  | cons {k : Cla} {ks : List Cla} {x n : Str} {b1 : Stmt} {bs : List Stmt} {p1 p2 : Pos} {hs : List ExceptHandler} (nm : Names X x k.c) (at_ : X.N[k.i]? = some n) (lo : X.env.kindOf n = some .local)
      (suite : ∀ (a : Addr) (oe : Obj) (cls : Value) (d : Option Addr) (pn : List (Addr × Obj)), L2N.Zn cls d oe → (∃ vs, oe.data = .fields vs) → PSs (X.suite a ((a, oe) :: pn)) (b1 :: bs) (k.ts a cls d)) (more : ClausesN X hs ks) :
      ClausesN X (.ExceptHandler (some (.Name x p1)) (some n) (b1 :: bs) p2 :: hs) (k :: ks)
section
variable {X : Cx} {pins : List (Addr × Obj)} {σ : L2.St} {H : Hp} {s0 sI : Shared} {h3 B : Heap} {a : Addr} {cls : Value} {d : Option Addr} {D : L2.Ends} {W0 : WX}
/-- the clauses are tried, the error being at a -/
theorem clauses_runN (top : X.stack = X.env :: X.outer) (fr : X.env.frame = some X.env.locals) (nd : X.N.Nodup) (tk : L2N.Takes X W0) (J : Inv X pins σ H sI) (na : H a = none)
    (J' : ∀ h4, HandSPX.FlyingZ B (X.env :: X.outer) a (L2N.Zn cls d) h4 → h3.UpToSlots h4 → Inv X pins σ H { s0 with heap := h4 })
    (out : W0 cls d σ H → ∀ (h4 : Heap), HandSPX.HeldZ B (X.env :: X.outer) a (L2N.Zn cls d) X.env.locals h4 → h3.UpToSlots h4 → X.xe (.ref a) { s0 with heap := h4 })
    (fl : HandSPX.FlyingZ B (X.env :: X.outer) a (L2N.Zn cls d) h3) : ∀ {hs : List ExceptHandler} {ks : List Cla}, ClausesN X hs ks → wClas X.K W0 D ks cls d σ H →
      wpAny (model X.prog X.w) X.A (handleBy (.ref a) X.env hs) (SP X pins D) X.xe { s0 with heap := h3 } := by
  have ok := J.ok
  have J3 := J' h3 fl (Heap.UpToSlots.refl _)
  have far : ∀ {h : Heap} {o : Obj} {vs : Array Value}, h.FunFrames B (X.env :: X.outer) → h.get? a = some o → o.data = .fields vs → a ∉ frs (X.env :: X.outer) := by
    intro h o vs ff e dd hm
    obtain ⟨_, o', e', other⟩ := ff.mem hm
    cases e.symm.trans e'
    exact other _ dd
  obtain ⟨oe, vs, he, hz, hd⟩ := fl.there
  have away := far fl.2.2.1 he hd
  have nL : a ≠ X.env.locals := by
    intro z
    exact away (List.mem_filterMap.mpr ⟨X.env, List.mem_cons_self, by rw [fr, z]⟩)
  have nF : a ∉ X.fs := by
    intro hm
    obtain ⟨e, me, q⟩ := List.mem_filterMap.mp hm
    exact away (List.mem_filterMap.mpr ⟨e, List.mem_cons_of_mem _ me, q⟩)
  have S3 := J3.suite he hd na nL nF
  intro hs ks C
  induction C with
  | nil =>
    intro q
    refine wpAny_handleBy_nil ?_
    obtain ⟨_, _, _, o1, v1, T1, _, _, e1, _, d1, f1, _⟩ := id fl
    unfold PySem.passOn
    refine wpAny_bind (wpAny_field e1 d1 f1 ?_)
    rw [if_neg (show ¬ ((Value.ref T1 == Value.none) = true) by simp)]
    have leave : wpAny (model X.prog X.w) X.A (setFlight (.ref a) X.env.frame) (fun _ s4 => wpAny (model X.prog X.w) X.A (throw (.ref a) : Sem Flow) (SP X pins D) X.xe s4) X.xe { s0 with heap := h3 } := by
      rw [fr]
      exact HandSPX.setFlight_upZ fl fun h4 held up => wpAny_throw (out q h4 held up)
    first | exact wpAny_bind (wpAny_pure (wpAny_bind leave)) | exact wpAny_bind leave
  | @cons k ks x n b1 bs p1 p2 hs nm at_ lo suite more ih =>
    rintro ⟨hit, e1, yes, no⟩
    refine wpAny_handleBy_cons (codeAny_handlers_test ?_) (by intro q; cases q)
    have looks : PySem.W.Looks (model X.prog X.w) h3 (typeOf (.ref a)) cls := by
      intro A Q E s kk q
      exact wpAny_typeOf_ref (kk _ _ he) (by rw [hz.1]; exact q)
    have named : ∀ {Q : Value → Shared → Prop} {E : Value → Shared → Prop}, Q k.c { s0 with heap := h3 } → wpAny (model X.prog X.w) (X.A.mark (some (.ref a))) (eval (.Name x p1) X.env) Q E { s0 with heap := h3 } := by
      intro Q E q
      obtain ⟨g1, g2, m1 | ⟨m1, m2, m3⟩⟩ := nm
      · exact ld_glob (X := X.suite a ((a, oe) :: (X.pn ++ pins))) S3 g1 m1 q g2
      · exact ld_blt (X := X.suite a ((a, oe) :: (X.pn ++ pins))) S3 g1 m1 m2 q m3 g2
    refine named ((PySem.W.exm_one (M := model X.prog X.w) J3.kIn looks e1).here ?_)
    cases hit with
    | false => exact (show wpAny _ X.A (handleBy (.ref a) X.env hs) _ _ _ from ih (no rfl))
    | true =>
      refine codeAny_handlers_suite_as (HandSPX.lands_againZ fl fun h4 fl4 up4 => ?_)
      have J4 := J' h4 fl4 up4
      obtain ⟨o4, v4, e4, z4, d4⟩ := fl4.there
      refine store_ok (X := X.suite a ((a, o4) :: (X.pn ++ pins))) (v := .ref a) (J4.suite e4 d4 na nL nF) nd at_ (.inl lo) rfl (fun s5 S5 => ?_) (.inr lo)
      refine wpAny_mono ((suite a o4 cls d (X.pn ++ pins) z4 ⟨_, d4⟩).run [] s5 _ H _ S5 (yes rfl a na)) ?_ fun _ _ z => z.elim
      rintro fl' s6 hsp
      have close : ∀ {τ : L2.St} {G : Hp} {Q : Shared → Prop}, Inv (X.suite a ((a, o4) :: (X.pn ++ pins))) [] τ G s6 → (∀ s7, Inv X pins (τ.set k.i none) G s7 → Q s7) →
          wpAny (model X.prog X.w) X.A (do bindName X.env n .none; unbindBehindTheSuite X.env n p2) (fun _ s7 => Q s7) X.xe s6 := fun S6 hq => gone_ok (S6.unsuite ok) nd at_ lo hq
      cases fl' with
      | ret u =>
        obtain ⟨v, τ, G, S6, r, q⟩ := hsp
        exact close S6 fun s7 J7 => ⟨_, _, _, J7, r, q⟩
      | _ =>
        obtain ⟨τ, G, S6, q⟩ := hsp
        exact close S6 fun s7 J7 => ⟨_, _, J7, q⟩
end
section
variable {X : Cx} {body : List Stmt} {h1 : ExceptHandler} {hs : List ExceptHandler} {ks : List Cla} {pos : Pos} {tb : WX → TS} {W0 : WX}
theorem ps_try_clausesN (top : X.stack = X.env :: X.outer) (fr : X.env.frame = some X.env.locals) (nd : X.N.Nodup) (C : ClausesN X (h1 :: hs) ks) (tk : L2N.Takes X W0)
    (hb : ∀ (W : WX) (pn : List (Addr × Obj)) (xe : Value → Shared → Prop), L2N.Takes (X.tr pn xe) W → PassesOwn (model X.prog X.w) X.A X.env xe → PSs (X.tr pn xe) body (tb W)) :
    PS X (.Try body (h1 :: hs) [] [] pos) (fun D σ H => tb (wClas X.K W0 D ks) D σ H) := by
  refine ⟨fun pins s σ H D I q0 => ?_⟩
  have ok := I.ok
  have frames : X.A.frames = some (X.env :: X.outer) := ok.frames.trans (by rw [top])
  let xe1 : Value → Shared → Prop := fun e s1 => wpAny (model X.prog X.w) X.A (noteFrame e X.env) (fun _ s2 => wpAny (model X.prog X.w) X.A (setFlight e none) (fun _ s3 => wpAny (model X.prog X.w) X.A (handleBy e X.env (h1 :: hs)) (SP X pins D) X.xe s3) X.xe s2) X.xe s1
  have takes : L2N.Takes (X.tr (X.pn ++ pins) xe1) (wClas X.K W0 D ks) := by
    rintro u s' ⟨a, B, sI, pins', σ', H', cls, d, rfl, J', nb, up, sky, na, os, ag, w⟩
    have J : Inv X pins σ' H' sI := J'.ofTry ok
    have sky' : Sky B (X.env :: X.outer) a (L2N.Zn cls d) X.env.locals s'.heap := by rw [← top]; exact sky
    refine L2N.Sky.land L2N.Zn.steady frames fr sky' fun h3 fl3 up3 => ?_
    refine clauses_runN top fr nd tk J na (fun h4 fl4 up4 => J.landed nb fl4.1 ((up.trans up3).trans up4) os ag) (fun w0 h4 held up4 => ?_) fl3 C w
    exact tk _ _ ⟨a, B, sI, pins, σ', H', cls, d, rfl, J, nb, (up.trans up3).trans up4, .inr (.inr (by rw [top]; exact held)), na, os, ag, w0⟩
  refine wpAny_Try_except (wpAny_mono ((hb _ (X.pn ++ pins) xe1 takes PassesOwn.looking).run [] s σ H D (I.toTry _) q0) ?_ fun e s1 he => he)
  rintro f s1 hsp
  cases f with
  | next =>
    obtain ⟨τ, G, J, q⟩ := hsp
    exact wpAny_execs_nil ⟨τ, G, J.ofTry ok, q⟩
  | ret u =>
    obtain ⟨v, τ, G, J, r, q⟩ := hsp
    exact ⟨v, τ, G, J.ofTry ok, r, q⟩
  | _ =>
    obtain ⟨τ, G, J, q⟩ := hsp
    exact ⟨τ, G, J.ofTry ok, q⟩
end
section
variable {X : Cx} {body : List Stmt} {pos : Pos} {tb : WX → TS} {W0 : WX} {x1 n1 x2 n2 x3 n3 : Str} {c1 c2 c3 : Value} {i1 i2 i3 : Nat} {b1 b2 b3 : Stmt} {r1 r2 r3 : List Stmt} {p1 p2 p3 q1 q2 q3 : Pos} {t1 t2 t3 : Addr → Value → Option Addr → TS}
theorem ps_try_as3N (top : X.stack = X.env :: X.outer) (fr : X.env.frame = some X.env.locals) (nd : X.N.Nodup) (a1 : X.N[i1]? = some n1) (a2 : X.N[i2]? = some n2) (a3 : X.N[i3]? = some n3) (l1 : X.env.kindOf n1 = some .local) (l2 : X.env.kindOf n2 = some .local) (l3 : X.env.kindOf n3 = some .local)
    (m1 : Names X x1 c1) (m2 : Names X x2 c2) (m3 : Names X x3 c3) (tk : L2N.Takes X W0)
    (hb : ∀ (W : WX) (pn : List (Addr × Obj)) (xe : Value → Shared → Prop), L2N.Takes (X.tr pn xe) W → PassesOwn (model X.prog X.w) X.A X.env xe → PSs (X.tr pn xe) body (tb W))
    (s1 : ∀ (a : Addr) (oe : Obj) (cls : Value) (d : Option Addr) (pn : List (Addr × Obj)), L2N.Zn cls d oe → (∃ vs, oe.data = .fields vs) → PSs (X.suite a ((a, oe) :: pn)) (b1 :: r1) (t1 a cls d))
    (s2 : ∀ (a : Addr) (oe : Obj) (cls : Value) (d : Option Addr) (pn : List (Addr × Obj)), L2N.Zn cls d oe → (∃ vs, oe.data = .fields vs) → PSs (X.suite a ((a, oe) :: pn)) (b2 :: r2) (t2 a cls d))
    (s3 : ∀ (a : Addr) (oe : Obj) (cls : Value) (d : Option Addr) (pn : List (Addr × Obj)), L2N.Zn cls d oe → (∃ vs, oe.data = .fields vs) → PSs (X.suite a ((a, oe) :: pn)) (b3 :: r3) (t3 a cls d)) :
    PS X (.Try body [.ExceptHandler (some (.Name x1 p1)) (some n1) (b1 :: r1) q1, .ExceptHandler (some (.Name x2 p2)) (some n2) (b2 :: r2) q2, .ExceptHandler (some (.Name x3 p3)) (some n3) (b3 :: r3) q3] [] [] pos) (fun D σ H => tb (wClas X.K W0 D [⟨c1, i1, t1⟩, ⟨c2, i2, t2⟩, ⟨c3, i3, t3⟩]) D σ H) :=
  ps_try_clausesN top fr nd (.cons m1 a1 l1 s1 (.cons m2 a2 l2 s2 (.cons m3 a3 l3 s3 .nil))) tk hb
end
/-! a def that is handed the error, its context None -/
structure HeldN (A : Around) (s : Shared) (H : Hp) (outer : List Env) (a : Addr) (oe : Obj) (cls : Value) (d : Option Addr) : Prop where
  n : L2N.Zn cls d oe
  h : Held s H outer a oe cls d
  hh : A.handled = some (.ref a)
structure FnZN (P : Program) (w : World) (K : PySem.W.Frag) (mg : Str → Option Value) (base : Heap) (CX : CXT) (k : Nat) (f : Addr) (fd : FuncData) (ps : List Str) (sp : Addr → Value → Option Addr → Sp) : Prop where
  len : ∀ a cls d vs H Q E, sp a cls d vs H Q E → vs.length = ps.length
  run : ∀ (A : Around) (outer : List Env) (s : Shared) (H : Hp) (ar : Args) (us : List Value) (vs : List V) (Q : VK) (E : XK) (a : Addr) (oe : Obj) (cls : Value) (d : Option Addr), RoomZ k A → Env0 P w K mg base A outer s H → BindsTo s fd ar (ps.zip us) → Vals vs us → HeldN A s H outer a oe cls d → sp a cls d vs H Q E → codeAny (model P w) A (.call (.ref f) ar) (CR CX outer P w H s Q E) s
section
variable {CX : CXT} {P : Program} {w : World} {K : PySem.W.Frag} {mg : Str → Option Value} {base : Heap} {N ps : List Str} {qual : Str} {sc : Scope} {f : Addr} {cd : Value} {k : Nat} {sp : Addr → Value → Option Addr → Sp}
theorem fn_ofZN {name : Str} {params : Arguments} {body : List Stmt} {dV kV doc pm ct oc : Value} {an od : Option Addr} {osl : Array (Option Value)} (lk : K.lookup f = some ⟨oc, od, .func (PySem.W.fnOf name qual params body sc dV kV doc pm an cd ct), osl⟩) (hcd : PySem.W.codeIn K cd qual = true) (S : FnScope N ps sc)
    (len : ∀ a cls d vs H Q E, sp a cls d vs H Q E → vs.length = ps.length)
    (todo : ∀ (A : Around) (outer : List Env) (s : Shared) (H : Hp) (vs : List V) (Q : VK) (E : XK) (a : Addr) (oe : Obj) (cls : Value) (d : Option Addr), RoomZ k (A.deeper (envOfC qual sc s.heap.objs.size f cd)) → Zc cls d oe → (∃ vs, oe.data = .fields vs) → HotC (cxZE CX P w K mg base N qual sc f cd A outer s H E [(a, oe)]) → sp a cls d vs H Q E → ∃ t, PSs (cxZE CX P w K mg base N qual sc f cd A outer s H E [(a, oe)]) body t ∧ t { nx := fun _ H' => Q .non H', rt := Q } (L2.start N vs) H) :
    FnZN P w K mg base CX (k + 1) f (PySem.W.fnOf name qual params body sc dV kV doc pm an cd ct) ps sp := by
  refine ⟨len, fun A outer s H ar us vs Q E a oe cls d room e0 bnd vals hn hsp => ?_⟩
  have held := hn.h
  have kin : K.In s.heap := e0.mod.kin.keeps fun b o z => (e0.bs b o z).1
  have nolim : s.heap.NoLimit := e0.mod.nolimit.keeps fun b o z => (e0.bs b o z).1
  have dep : A.depth < recursionLimit := by
    have := room.dep
    omega
  refine codeAny_call_function dep (kin _ _ lk) rfl S.co S.gen rfl (PySem.W.codeRec_of kin hcd) (bnd _ _ _ _ ?_)
  have kinds : ∀ y ∈ ps.zip us, sc.names.lookup y.1 = some .local ∨ (sc.names.lookup y.1 = some .cell ∧ ((cellsFrom (s.heap.objs.size + 1) sc.names []).lookup y.1).isSome = true) := fun ⟨n, v⟩ hy =>
    (S.par n (List.of_mem_zip hy).1).imp id fun z => ⟨z, PySem.W.cellsFrom_some _ _ _ (.inl z)⟩
  refine wpAny_newFunctionEnv_cells S.kind kinds fun env he s1 x => ?_
  cases he
  refine ⟨nolim.keeps x.toInCall.keep, codeAny_func ?_⟩
  have hot : HotC (cxZE CX P w K mg base N qual sc f cd A outer s H E [(a, oe)]) := by
    obtain ⟨vs', hv⟩ := held.f
    exact ⟨(a, oe), ⟨hn.hh, vs', hv, hn.n.2.2 vs' hv⟩, List.mem_cons_self⟩
  obtain ⟨t, ht, hq⟩ := todo A outer s H vs Q E a oe cls d (room.deeper _) held.z held.f hot hsp
  have I := inv_startZE (CX := CX) (E := E) (cd := cd) S e0 (len _ _ _ _ _ _ _ hsp) vals held x
  refine wpAny_mono (ht.run [] s1 (L2.start N vs) H _ I hq) (fun fl s' done => ?_) fun e s' z => z
  cases fl with
  | ret u =>
    obtain ⟨v, σ', H', J, rv, z⟩ := done
    exact ⟨v, H', J.os, J.bare, J.base, J.hok, rv, z⟩
  | next =>
    obtain ⟨σ', H', J, z⟩ := done
    exact ⟨V.non, H', J.os, J.bare, J.base, J.hok, rfl, z⟩
  | brk => obtain ⟨_, _, _, z⟩ := done; exact z.elim
  | cont => obtain ⟨_, _, _, z⟩ := done; exact z.elim
/-- a def that raises, as a context None has it -/
theorem okXN {x : Str} {st : Stmt} {fd : FuncData} {sp : Sp} (F : Fun K x qual st f fd) (S : FnScope N ps (defScope st)) (len : ∀ vs H Q E, sp vs H Q E → vs.length = ps.length)
    (body : ∀ (cdv : Value) (A : Around) (outer : List Env) (s : Shared) (H : Hp) (vs : List V) (Q : VK) (E : XK), Room k (A.deeper (envOfC qual (defScope st) s.heap.objs.size f cdv)) → sp vs H Q E →
      ∃ t, PSs (cxOf (L2N.CX P w) P w K mg base N qual (defScope st) f cdv A outer s H E) (defBody st) t ∧ t { nx := fun _ H' => Q .non H', rt := Q } (start N vs) H) : FnOk P w K mg base (L2N.CX P w) (k + 1) f fd ps sp := by
  obtain ⟨oc, od, kV, doc, pm, an, cdv, ct, osl, rfl, lk, hcd⟩ := F.ex
  exact fn_of lk hcd S len fun A outer s H vs Q E hr hsp => body cdv A outer s H vs Q E hr hsp
end
theorem passLN {X : Cx} : Passes (L2N.CX X.prog X.w) X E0 := fun _ _ _ _ _ _ _ h => by
  obtain ⟨_, _, _, _, _, _, _, _, _, _, _, _, z⟩ := h
  exact z.elim
theorem takes0N {X : Cx} : L2N.Takes X (fun _ _ _ _ => False) := fun _ _ x => by
  obtain ⟨_, _, _, _, _, _, _, _, _, _, _, _, _, _, _, _, z⟩ := x
  exact z.elim
section
variable {X : Cx} {CX : CXT} {k : Nat} {f : Addr} {fd : FuncData} {ps : List Str} {sp : Addr → Value → Option Addr → Sp} {E : L2.St → XK} {x : Str} {q pos : Pos} {e : Expr} {es : List Expr} {t : TA} {a : Addr} {oe : Obj} {cls : Value} {d : Option Addr}
theorem pe_callZN (hmp : (a, oe) ∈ X.pn) (hh : X.A.handled = some (.ref a)) (hz : L2N.Zn cls d oe) (hf : ∃ vs, oe.data = .fields vs) (F : FnZN X.prog X.w X.K X.mg X.base CX k f fd ps sp) (hr : RoomZ k X.A) (hg : Gl X x) (hm : X.mg x = some (.ref f)) (hk : PySem.W.keepIn X.K (.ref f) = true) (hb : Binds X.K fd ps []) (hx : ∀ σ, PassesAt CX X σ (E σ))
    (ha : PA X (e :: es) t) (hdb : (x == ("__debug__" : Str)) = false := by decide) (he : starEach (e :: es) X.env = (false, eval e X.env) :: starEach es X.env := by rfl) (hpl : (backTo pos (starEach es X.env)).any (·.1) = false := by rfl) : PE X (.Call (.Name x q) (e :: es) [] pos) (tCallS (sp a cls d) E t) := by
  refine ⟨fun pins s σ H Q I h => wpAny_Call_Name_kw (ld_glob I hg hm (PySem.W.callWith_K (h₀ := X.base) I.ok.mod.kin hk (thn (ha.run pos pins s σ H _ I h) fun us s1 ⟨vs, H1, I1, r, z⟩ => ⟨I1.kIn, ?_⟩) he hpl) hdb)⟩
  have hl : us.length = ps.length := r.length.symm.trans (F.len _ _ _ _ _ _ _ z)
  have b := hb s1 us I1.kIn (by rw [List.append_nil]; exact hl)
  rw [List.append_nil] at b
  obtain ⟨p1, p2, p3, p4, p5⟩ := I1.pin (a, oe) (List.mem_append_left _ hmp)
  have fr : a ∉ frs X.stack := by
    rcases I1.ok.stk with e | ⟨e, ef⟩
    · rw [e]; exact p4
    · rw [e]
      unfold frs
      rw [List.filterMap_cons, ef]
      intro z
      rcases List.mem_cons.mp z with z | z
      · exact p3 z
      · exact p4 z
  refine wpAny_call (codeAny_mono (F.run X.A X.stack s1 H1 ⟨us, []⟩ us vs Q (E σ) a oe cls d hr I1.env0 b r ⟨hz, ⟨hz.zc, hf, p1, p2, fr⟩, hh⟩ z) fun r s' hq => ?_)
  cases r with
  | error e => exact hx σ pins H1 s1 e s' I1 hq
  | ok fl => cases fl with
    | ret u => exact I1.after hq
    | next => exact hq.elim
    | brk => exact hq.elim
    | cont => exact hq.elim
end
section
variable {X : Cx}
/-- a list made over a range while an error is handled whose context is None -/
theorem pe_lcHot {elt tg a0 : Expr} {ifs : List Expr} {scope : Scope} {own : List (Str × Nat)} {p1 p2 pos : Pos} {ta : TA} {g : TG} {tt : TT} {te : TE} (hot : HotC X) (nd : X.N.Nodup) (gr : Gl X "range") (mr : X.mg "range" = none) (ha : PA X [a0] ta) (ok : BlkOk X.N X.env.scope scope own)
    (hg : ∀ (s : Shared) (H : Hp) (C : Addr) (cl : List (Str × Addr)) (fp : List Addr), PG (X.blk s H scope (compEnvC scope cl C X.env) fp) tg g)
    (ht : ∀ (s : Shared) (H : Hp) (C : Addr) (cl : List (Str × Addr)) (fp : List Addr), PTs (X.blk s H scope (compEnvC scope cl C X.env) fp) ifs tt)
    (he : ∀ (s : Shared) (H : Hp) (C : Addr) (cl : List (Str × Addr)) (fp : List Addr), PE (X.blk s H scope (compEnvC scope cl C X.env) fp) elt te)
    (st : starEach [a0] X.env = [(false, eval a0 X.env)] := by rfl) (hs : ∀ x, foldedSetIterable (.Call (.Name "range" p1) [a0] [] p2) X.env x = pure x := by intro _; rfl) :
    PE X (.ListComp elt [⟨tg, .Call (.Name "range" p1) [a0] [] p2, ifs, 0⟩] scope pos) (tLc (iRng1 ta) g tt te (own.map (·.2))) := by
  refine ⟨fun pins s σ H Q I q0 => ?_⟩
  rw [eval_ListComp]
  have frees : ∀ y ∈ scope.names, y.2 = .free → ∃ c, X.env.cells.lookup y.1 = some c := fun y my fy => (ok.free y my fy).elim (fun k => I.ok.has _ (.inl k)) fun k => I.ok.has _ (.inr k)
  refine wpAny_comprehension_free rfl hs (closure_ok frees) ok.kind (fun y my ly => by rw [ok.uniq y my, ly]) ?_
  refine Call_ (ld_blt I gr mr boot_range (PyProof.Rows.callWith_type1 (thn (ha.run p2 pins s σ H _ I q0) fun us s1 m1 => ?_) st rfl))
  obtain ⟨vs, H1, I1, r1, j, ev, j1, j2, turn⟩ := m1
  subst ev
  obtain ⟨u, rfl, t, rfl⟩ := vals1 r1
  refine call_range_1 ?_
  refine wpAny_pyIter_range (IsRange.new ..) (small_one (by omega) (by omega) j1 j2) ?_
  refine wpAny_newObj_type (newEnv_comp ?_) (by show 0 ≤ sizeLine; decide)
  -- the range, its iterator, the list
  generalize hA : s1.heap.push { cls := Value.type "range", data := Data.fields #[Value.int 0 s1.toks, Value.int j t, Value.int 1 (s1.toks + 1)] } = gA
  have kA : ∀ b o, s1.heap.get? b = some o → gA.get? b = some o := fun b o z => by rw [← hA]; exact Heap.get?_push_of_some _ z
  have IA : Inv X pins σ H1 { s1 with heap := gA, toks := s1.toks + 1 + 1 } := I1.kept (t' := s1.toks + 1 + 1) kA
  have clear := IA.fpOk (H' := H1) (Nat.le_refl _) (IA.hok.fresh (Nat.le_refl _))
  generalize hIt : gA.objs.size = it at clear ⊢
  generalize hB : gA.push { cls := Value.type "range_iterator", data := Data.fields #[rawInt 0, rawInt (Builtin.Range.rangeSize 0 j 1), rawInt 1] } = gB
  have kB : ∀ b o, gA.get? b = some o → gB.get? b = some o := fun b o z => by rw [← hB]; exact Heap.get?_push_of_some _ z
  have IB : Inv X pins σ H1 { s1 with heap := gB, toks := s1.toks + 1 + 1 } := IA.kept (t' := s1.toks + 1 + 1) kB
  have lenB : gB.objs.size = it + 1 := by rw [← hB, Heap.size_push, hIt]
  have here : IsRangeIter gB it 0 (j.toNat : Int) 1 := by
    have many : Builtin.Range.rangeSize 0 j 1 = (j.toNat : Int) := by rw [rangeSize_one]; split <;> omega
    rw [← hB, many, ← hIt]
    exact Heap.get?_push_size _ rfl
  generalize hD : gB.objs.size = D
  have noD : H1 D = none := IB.hok.fresh (Nat.le_of_eq hD)
  obtain ⟨W, ⟨m0, w0⟩, turn⟩ := turn D noD
  generalize hC : gB.push { cls := Value.type "list", data := Data.seq ([] : List Value).toArray } = gC
  have kC : ∀ b o, gB.get? b = some o → gC.get? b = some o := fun b o z => by rw [← hC]; exact Heap.get?_push_of_some _ z
  have IC : Inv X pins σ (upd H1 D (.lst [])) { s1 with heap := gC, toks := s1.toks + 1 + 1 } := IB.laid (t' := s1.toks + 1 + 1) kC (Nat.le_of_eq hD) ⟨Nat.zero_le _, [], 0, .nil, by
    rw [← hC, ← hD]
    exact Heap.get?_push_size _ rfl⟩
  have itD : it ≠ D := by rw [← hD, lenB]; exact Nat.ne_of_lt (Nat.lt_succ_self it)
  have clearC : FpOk X pins (upd H1 D (.lst [])) it := ⟨by rw [upd_ne itD]; exact clear.1, clear.2⟩
  have roomC : it < gC.objs.size := by rw [← hC, Heap.size_push, lenB]; omega
  have one : ∀ b ∈ [it], FpOk X pins (upd H1 D (.lst [])) b ∧ b < ({ s1 with heap := gC, toks := s1.toks + 1 + 1 } : Shared).heap.objs.size := fun b hb => by
    rw [List.mem_singleton.mp hb]
    exact ⟨clearC, roomC⟩
  have blk := block_start IC ok nd one
  have hereC : IsRangeIter gC it 0 (j.toNat : Int) 1 := kC _ _ here
  -- the error that is handled stands
  obtain ⟨pe1, ⟨hh1, vs1, dt1, ctx1⟩, pm1⟩ := hot
  obtain ⟨pg1, pn1, pl1, pf1, _⟩ := IC.pin pe1 (List.mem_append_left _ pm1)
  have pfr : pe1.1 ∉ frs X.stack := by
    rcases IC.ok.stk with z | ⟨z, zf⟩
    · rw [z]; exact pf1
    · rw [z]
      unfold frs
      rw [List.filterMap_cons, zf]
      intro m
      rcases List.mem_cons.mp m with m | m
      · exact pl1 m
      · exact pf1 m
  have pit : pe1.1 ∉ [it] := fun m => clearC.2.2.2.2.2 pe1 (List.mem_append_left _ pm1) (List.mem_singleton.mp m)
  generalize hSC : ({ s1 with heap := gC, toks := s1.toks + 1 + 1 } : Shared) = sC at IC one blk pg1
  have gSC : sC.heap = gC := by rw [← hSC]
  generalize hHC : upd H1 D (.lst []) = HC at IC one blk w0 clearC pn1
  have pg := hg sC HC sC.heap.objs.size (cellsFrom (sC.heap.objs.size + 1) scope.names (cloFrom X.env.cells scope.names [])) [it]
  have pt := ht sC HC sC.heap.objs.size (cellsFrom (sC.heap.objs.size + 1) scope.names (cloFrom X.env.cells scope.names [])) [it]
  have pe := he sC HC sC.heap.objs.size (cellsFrom (sC.heap.objs.size + 1) scope.names (cloFrom X.env.cells scope.names [])) [it]
  show codeAny _ _ (.compStart (.ListComp elt [⟨tg, .Call (.Name "range" p1) [a0] [] p2, ifs, 0⟩] scope pos) 0 (.ref it) (.ref D) (compEnvC scope (cellsFrom (sC.heap.objs.size + 1) scope.names (cloFrom X.env.cells scope.names [])) sC.heap.objs.size X.env)) (compPost (model X.prog X.w) X.A X.xe none (EP X pins σ Q) (.ref D) sC.heap.objs.size) { sC with heap := pushCells (sC.heap.push { cls := .type "dict", data := .dict #[] }) scope.names }
  generalize hce : compEnvC scope (cellsFrom (sC.heap.objs.size + 1) scope.names (cloFrom X.env.cells scope.names [])) sC.heap.objs.size X.env = ce at blk pg pt pe ⊢
  have ceL : ce.locals = sC.heap.objs.size := by rw [← hce]; rfl
  have rgK : ∀ {h h' : Heap} {x l : Int}, IsRangeIter h it x l 1 → (∀ o, h.get? it = some o → h'.get? it = some o) → IsRangeIter h' it x l 1 := fun r k => k _ r
  have hereS : IsRangeIter sC.heap it 0 (j.toNat : Int) 1 := by rw [gSC]; exact hereC
  generalize hS4 : ({ sC with heap := pushCells (sC.heap.push { cls := .type "dict", data := .dict #[] }) scope.names } : Shared) = s4 at blk ⊢
  have here4 : IsRangeIter s4.heap it 0 (j.toNat : Int) 1 := rgK hereS fun o z => by rw [← hS4]; exact pushCells_keeps _ _ _ _ (Heap.get?_push_of_some _ z)
  have me : it ∈ [it] := List.mem_singleton.mpr rfl
  have stat : ∀ {τ : L2.St} {G : Hp} {s' : Shared}, Inv (X.blk sC HC scope ce [it]) [] τ G s' → G it = none → FpOk (X.blk sC HC scope ce [it]) [] G it := fun J n =>
    ⟨n, (J.ok.exf it me).1, J.ok.exfs it me, .inl me, fun x c z => (J.ok.exf it me).2 x c z, fun p hp => absurd (show p ∈ ([] : List (Addr × Obj)) ++ [] from hp) (by simp)⟩
  have loop : codeAny (model X.prog X.w) X.A (.compLoop (.ListComp elt [⟨tg, .Call (.Name "range" p1) [a0] [] p2, ifs, 0⟩] scope pos) 0 (.ref it) (.ref D) ce) (compPost (model X.prog X.w) X.A X.xe none (EP X pins σ Q) (.ref D) sC.heap.objs.size) s4 := by
    refine compLoop_any (fun n s' => ∃ (i : Nat) (G : Hp), Inv (X.blk sC HC scope ce [it]) [] (wipe σ (own.map (·.2))) G s' ∧ IsRangeIter s'.heap it (i : Nat) ((j.toNat : Int) - (i : Nat)) 1 ∧ G it = none ∧ W i n G) ?_ m0 ⟨0, HC, blk, by simpa using here4, clearC.1, w0⟩
    rintro n s5 ⟨i, G, J5, it5, n5, w5⟩
    have hotS : HotX.HotAt X.A pe1.1 s5.heap := ⟨hh1, pe1.2, vs1, J5.base.keep _ _ pg1 pn1 pfr pit, dt1, ctx1⟩
    obtain ⟨f0, f1, f2, f3, f4, f5⟩ := stat J5 n5
    rcases turn i n G w5 with ⟨stop, done⟩ | ⟨go, Nx, less, step⟩
    · refine HotX.pyNext_range_end_hot hotS it5 (by have : j.toNat ≤ i := stop; omega) fun h6 k6 => ?_
      have J6 := J5.turned (t' := s5.toks) (h' := h6) (fun b o _ z => k6 b o z) f0 f1 f3 f4 f5
      have back : Inv X pins σ G { s5 with heap := h6, toks := s5.toks } := IC.call' (ch := [it]) J6.os J6.base J6.hok J6.bare fun b hb => by
        rw [List.mem_singleton.mp hb]
        exact ⟨clearC.2.2.2.1, clearC.2.1, clearC.2.2.2.2.1, clearC.2.2.2.2.2⟩
      have noC : G sC.heap.objs.size = none := by
        have z : G ce.locals = none := J6.free
        rwa [ceL] at z
      obtain ⟨m, ns, _⟩ := J6.loc
      have ns : ({ s5 with heap := h6, toks := s5.toks } : Shared).heap.Ns ce.locals m := ns
      rw [ceL] at ns
      obtain ⟨c0, c1, c2, c3, c4, c5⟩ := IC.fpOk (H' := G) (Nat.le_refl _) noC
      exact ⟨m, ns, fun h7 sb => ⟨.ref D, G, back.turned (t' := s5.toks) (fun b o nb z => (sb.2 b nb).trans z) c0 c1 c3 c4 c5, rfl, done⟩⟩
    · refine wpAny_pyNext_range_item it5 (by have : i < j.toNat := go; omega) fun h6 it6 sb => ?_
      have J6 := J5.turned (t' := s5.toks + 1) (h' := h6) (fun b o nb z => (sb.2 b nb).trans z) f0 f1 f3 f4 f5
      have it6' : IsRangeIter h6 it ((i + 1 : Nat) : Int) ((j.toNat : Int) - ((i + 1 : Nat) : Int)) 1 := by
        rw [show ((i + 1 : Nat) : Int) = (i : Int) + 1 by omega, show (j.toNat : Int) - ((i : Int) + 1) = (j.toNat : Int) - (i : Int) - 1 by omega]
        exact it6
      refine go_of (s := { s5 with heap := h6, toks := s5.toks + 1 }) (n := "range_iterator") it6' rfl rfl (by decide) ?_
      have pin6 := J6.pinned (fp := [it]) (fun b hb => by rw [List.mem_singleton.mp hb]; exact stat J6 n5) (fun b hb => by
        rw [List.mem_singleton.mp hb]
        exact ⟨_, it6', fun v z => by
          have z' : Data.fields _ = Data.cell v := z
          cases z'⟩)
      refine thnF (pg.run _ _ _ G (.int (0 + (i : Int))) _ _ pin6 ⟨s5.toks, by rw [Int.zero_add]⟩ (step _ G ⟨rfl, rfl⟩)) fun _ s8 ⟨τ, G8, J8, wp8, q8⟩ => ?_
      refine thnF (pt.run _ s8 τ G8 _ J8 q8) fun b s9 ⟨G9, J9, q9⟩ => ?_
      have turned : ∀ {s' : Shared} {G' : Hp}, Inv (X.blk sC HC scope ce [it]) ([] ++ pinsAt [it] h6) τ G' s' → Nx G' → ∃ m, m < n ∧ ∃ (i : Nat) (G : Hp), Inv (X.blk sC HC scope ce [it]) [] (wipe σ (own.map (·.2))) G s' ∧ IsRangeIter s'.heap it (i : Nat) ((j.toNat : Int) - (i : Nat)) 1 ∧ G it = none ∧ W i m G := by
        intro s' G' J nx
        obtain ⟨m', lt, w'⟩ := less G' nx
        obtain ⟨g6, n6, _⟩ := J.pin (it, _) (List.mem_append_right _ (List.mem_append_right _ (mem_pinsAt me it6')))
        refine ⟨m', lt, i + 1, G', J.unpinned.weak (by rw [← wp8, wipe_length]) fun k v z => ?_, g6, n6, w'⟩
        rw [← wp8] at z
        exact (wipe_some z).1
      cases b with
      | false =>
        simp only [Bool.false_eq_true, if_false] at q9 ⊢
        exact turned J9 q9
      | true =>
        simp only [if_true] at q9 ⊢
        exact thnF (pe.run _ s9 τ G9 _ J9 q9) fun z s10 ⟨y, G10, J10, r10, acc, e10, l10, nx⟩ => app_ok (X := X.blk sC HC scope ce [it]) J10 e10 l10 r10 fun s11 J11 => turned J11 nx
  exact codeAny_compStart_list loop (wpAny_pyIter_rangeiter here4 loop)
end
end My

set_option Elab.async false
set_option linter.all false
set_option maxRecDepth 100000
set_option maxHeartbeats 4000000
/-! ### displays of data: what an expression gives, read off its form -/
namespace My
open PySem L2
/-- te gives a value of the data d, and what stood stands -/
def DE (te : TE) (σ : L2.St) (H0 : Hp) (d : PyData) : Prop := ∀ H1, Kp [] H0 H1 → ∀ Q : VK, (∀ v H2, Kp [] H1 H2 → Dq H2 v d → Q v H2) → te σ H1 Q
def DA (ta : TA) (σ : L2.St) (H0 : Hp) (ds : List PyData) : Prop := ∀ H1, Kp [] H0 H1 → ∀ Q : List V → Hp → Prop, (∀ vs H2, Kp [] H1 H2 → DqAll H2 vs ds → Q vs H2) → ta σ H1 Q
section
variable {σ : L2.St} {H0 : Hp} {te tf : TE} {ta : TA} {d : PyData} {ds es : List PyData}
theorem de_int {i : Int} : DE (tC (.int i)) σ H0 (.int i) := fun H1 _ Q h => h _ _ (Kp.refl _ _) (.int i)
theorem de_str {z : Str} : DE (tC (.str z)) σ H0 (.str z) := fun H1 _ Q h => h _ _ (Kp.refl _ _) (.str z)
theorem de_bl {b : Bool} : DE (tC (.bl b)) σ H0 (.bool b) := fun H1 _ Q h => h _ _ (Kp.refl _ _) (.bl b)
theorem de_non : DE (tC .non) σ H0 .none := fun H1 _ Q h => h _ _ (Kp.refl _ _) .non
theorem de_neg {i : Int} : DE (tUn (rU fun i => V.int (-i)) (tC (.int i))) σ H0 (.int (-i)) := fun H1 _ Q h => ⟨i, rfl, h _ _ (Kp.refl _ _) (.int _)⟩
theorem de_var {i : Nat} {v : V} (e : σ[i]? = some (some v)) (hd : Dq H0 v d) : DE (tVar i) σ H0 d := fun H1 k Q h => ⟨v, e, h _ _ (Kp.refl _ _) (Dq.kp k hd)⟩
theorem da_nil : DA tNil σ H0 [] := fun H1 _ Q h => h _ _ (Kp.refl _ _) .nil
theorem da_cons (a : DE te σ H0 d) (b : DA ta σ H0 ds) : DA (tCons te ta) σ H0 (d :: ds) := fun H1 k Q h => a H1 k _ fun v H2 k2 hv => b H2 (k.trans k2) _ fun vs H3 k3 hvs => h _ _ (k2.trans k3) (.cons (Dq.kp k3 hv) hvs)
theorem de_tup (a : DA ta σ H0 ds) (l : ds.length ≤ 1000 := by decide) : DE (tTup ta) σ H0 (.tuple ds) := fun H1 k Q h => a H1 k _ fun vs H2 k2 hvs => ⟨by rw [hvs.len, sizeLine_eq]; omega, fun p np => h _ _ (k2.trans (Kp.new np)) (.tup upd_same (DqAll.kp (Kp.new np) hvs))⟩
theorem de_lst (a : DA ta σ H0 ds) (l : ds.length ≤ 1000 := by decide) : DE (tLst ta) σ H0 (.list ds) := fun H1 k Q h => a H1 k _ fun vs H2 k2 hvs => ⟨by rw [hvs.len, sizeLine_eq]; omega, fun p np => h _ _ (k2.trans (Kp.new np)) (.lst upd_same (DqAll.kp (Kp.new np) hvs))⟩
/-- list + list -/
theorem de_cat (a : DE te σ H0 (.list ds)) (b : DE tf σ H0 (.list es)) (l : ds.length ≤ 1000) (l2 : es.length ≤ 1000) : DE (tOp rCat te tf) σ H0 (.list (ds ++ es)) := fun H1 k Q h => a H1 k _ fun v H2 k2 hv => b H2 (k.trans k2) _ fun u H3 k3 hu => by
  have hv3 := Dq.kp k3 hv
  cases hv3 with
  | @lst p xs _ e1 h1 =>
    cases hu with
    | @lst q ys _ e2 h2 =>
      refine ⟨p, q, xs, ys, rfl, rfl, e1, e2, by rw [h1.len, h2.len, sizeLine_eq]; omega, fun r nr => h _ _ ((k2.trans k3).trans (Kp.new nr)) (.lst upd_same ?_)⟩
      have app : ∀ {as bs : List PyData} {us vs : List V}, DqAll H3 us as → DqAll H3 vs bs → DqAll H3 (us ++ vs) (as ++ bs) := by
        intro as
        induction as with
        | nil => intro bs us vs h h'; cases h; exact h'
        | cons a as ih => intro bs us vs h h'; cases h with
          | cons x t => exact .cons x (ih t h')
      exact DqAll.kp (Kp.new nr) (app h1 h2)
/-- t[j], t a name of a tuple -/
theorem de_ix {K : PySem.W.Frag} {i : Nat} {j : Nat} {t : Addr} {xs : List V} {x : V} (e : σ[i]? = some (some (.ref t))) (ht : H0 t = some (.tup xs)) (ej : xs[j]? = some x) (hd : Dq H0 x d) : DE (tOp (rIxT K) (tVar i) (tC (.int (j : Nat)))) σ H0 d := fun H1 k Q h =>
  ⟨.ref t, e, t, xs, (j : Nat), x, rfl, rfl, sq_t (k _ _ not0 ht), atI_nat ej, h _ _ (Kp.refl _ _) (Dq.kp k hd)⟩
/-- tuple + tuple, neither empty -/
theorem de_catA {K : PySem.W.Frag} (a : DE te σ H0 (.tuple ds)) (b : DE tf σ H0 (.tuple es)) (l : ds.length ≤ 1000) (l2 : es.length ≤ 1000) (n1 : ds ≠ []) (n2 : es ≠ []) : DE (tOp (rCatA K) te tf) σ H0 (.tuple (ds ++ es)) := fun H1 k Q h => a H1 k _ fun v H2 k2 hv => b H2 (k.trans k2) _ fun u H3 k3 hu => by
  have hv3 := Dq.kp k3 hv
  cases hv3 with
  | @tup p xs _ e1 h1 =>
    cases hu with
    | @tup q ys _ e2 h2 =>
      have m1 : xs ≠ [] := fun z => by have := h1.len; rw [z] at this; exact n1 (List.eq_nil_of_length_eq_zero this.symm)
      have m2 : ys ≠ [] := fun z => by have := h2.len; rw [z] at this; exact n2 (List.eq_nil_of_length_eq_zero this.symm)
      refine ⟨p, q, xs, ys, rfl, rfl, sq_t e1, sq_t e2, by rw [h1.len, h2.len, sizeLine_eq]; omega, fun z => absurd z m1, fun _ z => absurd z m2, fun _ _ r nr => h _ _ ((k2.trans k3).trans (Kp.new nr)) (.tup upd_same ?_)⟩
      have app : ∀ {as bs : List PyData} {us vs : List V}, DqAll H3 us as → DqAll H3 vs bs → DqAll H3 (us ++ vs) (as ++ bs) := by
        intro as
        induction as with
        | nil => intro bs us vs h h'; cases h; exact h'
        | cons a as ih => intro bs us vs h h'; cases h with
          | cons x t => exact .cons x (ih t h')
      exact DqAll.kp (Kp.new nr) (app h1 h2)
/-- list(t), t a name of a tuple -/
theorem de_list {K : PySem.W.Frag} (a : DE te σ H0 (.tuple ds)) : DE (tCB (fun xs H Q => ∃ p ys, xs = [V.ref p] ∧ (SqL K H p ys ∨ SqT K H p ys) ∧ ∀ (l : Addr), H l = none → Q (V.ref l) (upd H l (HO.lst ys))) (tCons te tNil)) σ H0 (.list ds) := fun H1 k Q h => a H1 k _ fun v H2 k2 hv => by
  cases hv with
  | @tup p xs _ e1 h1 => exact ⟨p, xs, rfl, .inr (sq_t e1), fun l nl => h _ _ (k2.trans (Kp.new nl)) (.lst upd_same (DqAll.kp (Kp.new nl) h1))⟩
end
end My

set_option Elab.async false
set_option linter.all false
set_option maxRecDepth 100000
set_option maxHeartbeats 4000000
/-! ### a law's def that asks repr of a list: where nothing is being shown -/
namespace My
open PySem PySem.Spec PyProof.Rows L2
/-- a promise that is kept where nothing is being shown -/
structure FnG (P : Program) (w : World) (K : PySem.W.Frag) (mg : Str → Option Value) (base : Heap) (CX : CXT) (k : Nat) (f : Addr) (fd : FuncData) (ps : List Str) (sp : Sp) : Prop where
  go : ∀ (A : Around) (outer : List Env) (s : Shared) (H : Hp) (args : Args) (us : List Value) (vs : List V) (Q : VK) (E : XK), A.guards = some [] → Room k A → Env0 P w K mg base A outer s H → BindsTo s fd args (ps.zip us) → Vals vs us → sp vs H Q E →
    codeAny (model P w) A (.call (.ref f) args) (CR CX outer P w H s Q E) s
section
variable {P : Program} {w : World} {K : PySem.W.Frag} {mg mb : Str → Option Value} {base : Heap} {k : Nat} {f a : Addr} {fd : FuncData} {x : Str} {sp : Sp} {s : Shared} {us : List Value} {ns : List Int}
theorem FnG.ok {qual : Str} {st : Stmt} {N ps : List Str} (F : Fun K x qual st f fd) (S : FnScope N ps (defScope st)) (len : ∀ vs H Q E, sp vs H Q E → vs.length = ps.length)
    (hbody : ∀ (cdv : Value) (A : Around) (outer : List Env) (s : Shared) (H : Hp) (vs : List V) (Q : VK) (E : XK), (A.deeper (envOfC qual (defScope st) s.heap.objs.size f cdv)).guards = some [] → Room k (A.deeper (envOfC qual (defScope st) s.heap.objs.size f cdv)) → sp vs H Q E →
      ∃ t, PSs (cxOf (L2.CX P w) P w K mg base N qual (defScope st) f cdv A outer s H E) (defBody st) t ∧ t { nx := fun _ H' => Q .non H', rt := Q } (start N vs) H) : FnG P w K mg base (L2.CX P w) (k + 1) f fd ps sp := by
  obtain ⟨oc, od, kV, doc, pm, an, cdv, ct, osl, rfl, lk, hcd⟩ := F.ex
  refine ⟨fun A outer s H args us vs Q E gd hr e0 hb r hsp => ?_⟩
  have count := len _ _ _ _ hsp
  have inK : K.In s.heap := e0.mod.kin.keeps fun b o e => (e0.bs b o e).1
  have kinds : ∀ y ∈ ps.zip us, (defScope st).names.lookup y.1 = some .local ∨ ((defScope st).names.lookup y.1 = some .cell ∧ ((cellsFrom (s.heap.objs.size + 1) (defScope st).names []).lookup y.1).isSome = true) := fun ⟨m, v⟩ hy =>
    (S.par m (List.of_mem_zip hy).1).imp id fun q => ⟨q, PySem.W.cellsFrom_some _ _ _ (.inl q)⟩
  refine codeAny_call_function hr.depth (inK _ _ lk) rfl S.co S.gen rfl (PySem.W.codeRec_of inK hcd) (hb _ _ _ _ (wpAny_newFunctionEnv_cells S.kind kinds fun env he s1 z => ?_))
  subst he
  refine ⟨(e0.mod.nolimit.keeps fun b o e => (e0.bs b o e).1).keeps z.toInCall.keep, codeAny_func ?_⟩
  obtain ⟨t, ht, todo⟩ := hbody cdv A outer s H vs Q E gd (hr.deeper _) hsp
  refine wpAny_mono (ht.run [] s1 (start N vs) H _ (inv_start S hr.hd e0 count r z) todo) (fun
    | .ret u, s2, ⟨v, σ', H', J, rv, q⟩ => ⟨v, H', J.os, J.bare, J.base, J.hok, rv, q⟩
    | .next, s2, ⟨σ', H', J, q⟩ => (⟨V.non, H', J.os, J.bare, J.base, J.hok, rfl, q⟩ : CE outer P w H s Q Value.none s2)
    | .brk, s2, ⟨_, _, _, q⟩ => q.elim
    | .cont, s2, ⟨_, _, _, q⟩ => q.elim) fun _ _ z => z
/-- a heap of which the script alone may be tracked -/
theorem script_heap (KX : K.In s.heap) (ha : s.heap.get? a = some { cls := .type "list", data := .seq us.toArray }) (hi : IntsAre us ns) (hl : ns.length ≤ sizeLine) :
    ∃ H : Hp, Only H ∧ SqL K H a (ns.map V.int) ∧ HOk P w H s.heap ∧ (∀ b, H b ≠ none → b = a) ∧ (H a ≠ none → K.lookup a = none) := by
  have rv := vals_ints hi
  cases hk : K.lookup a with
  | some o =>
    cases ha.symm.trans (KX a o hk)
    exact ⟨fun _ => none, fun _ => .inl rfl, .inr ⟨_, us.toArray, _, hk, rfl, rfl, rfl, by rw [List.size_toArray, hi.length]; exact hl, by simpa using rv⟩, fun b u z => (nomatch (show (none : Option HO) = some u from z)), fun b z => absurd rfl z, fun z => absurd rfl z⟩
  | none =>
    refine ⟨fun b => if b = a then some (.frz { cls := .type "list", data := .seq us.toArray } (.lst (ns.map V.int))) else none, fun b => ?_, .inl (.inr ⟨_, if_pos rfl⟩), fun b u z => ?_, fun b z => Classical.byContradiction fun n => z (if_neg n), fun _ => rfl⟩
    · rcases Classical.em (b = a) with e | e
      · exact .inr ⟨_, _, if_pos e⟩
      · exact .inl (if_neg e)
    · rcases Classical.em (b = a) with e | e
      · subst e
        cases (if_pos rfl).symm.trans z
        exact ⟨ha, by rw [List.length_map]; exact hl, us, _, rv, ha⟩
      · exact absurd ((if_neg e).symm.trans z) (fun q => nomatch q)
theorem call_lawG (KX : K.In s.heap) (hns : s.heap.Ns mainGlobals mg) (hb : s.heap.Ns builtinsNs mb) (hbb : ∀ x : Str, x ≠ "__name__" → mb x = bootBuiltins x) (hlim : s.heap.NoLimit) (hg : s.gens = #[])
    (ha : s.heap.get? a = some { cls := .type "list", data := .seq us.toArray }) (hi : IntsAre us ns) (hl : ns.length ≤ sizeLine) (hr : Room k callerA) (F : ∀ base : Heap, K.In base → base.Ns mainGlobals mg → FnG P w K mg base (L2.CX P w) k f fd [x] sp)
    (hbind : ∀ (s : Shared) (u : Value), BindsTo s fd ⟨[u], []⟩ [(x, u)]) (hsp : ∀ H : Hp, SqL K H a (ns.map V.int) → sp [.ref a] H (fun v _ => v = .bl true) fun _ _ _ => False) :
    codeAny (model P w) callerA (.call (.ref f) ⟨[.ref a], []⟩) (fun r s' => r = .ok (.ret (.bool true)) ∧ OldK s.heap s'.heap ∧ s'.os = s.os ∧ AllBare s'.gens) s := by
  obtain ⟨H, only, hS, hok, hA, hK⟩ := script_heap (P := P) (w := w) KX ha hi hl
  have old : ∀ {b : Addr} {o : Obj}, s.heap.get? b = some o → H b = none → (hidT s.heap H).get? b = some o := fun e n => hidT_get e n
  have dicts : ∀ {b : Addr} {o : Obj} {es : Array DictEntry} {ep : Nat}, s.heap.get? b = some o → o.data = .dict es ep → H b = none := fun {b o es ep} e d => Classical.byContradiction fun n => by
    rw [hA b n, ha] at e
    cases e
    cases (show Data.seq us.toArray _ = Data.dict es ep from d)
  have names : ∀ {b : Addr} {m : Str → Option Value}, s.heap.Ns b m → (hidT s.heap H).Ns b m := fun ⟨o, es, ep, e, d, r⟩ => ⟨o, es, ep, old e (dicts e d), d, r⟩
  have inB : K.In (hidT s.heap H) := fun b o e => old (KX b o e) (Classical.byContradiction fun n => by
    have eb := hA b n
    subst eb
    rw [hK n] at e
    cases e)
  have mods : Mod K mg (hidT s.heap H) := ⟨inB, names hns, ⟨mb, names hb, hbb⟩, let ⟨mc, h1, h2⟩ := hlim; ⟨mc, names h1, h2⟩⟩
  have env : Env0 P w K mg (hidT s.heap H) callerA [] s H := ⟨rfl, mods, fun b o e => of_hidT e, Nat.le_of_eq (hidT_size _ _), trivial, fun b hb => (nomatch hb), hok, .of_eq hg⟩
  refine codeAny_mono ((F _ inB (names hns)).go callerA [] s H ⟨[.ref a], []⟩ [.ref a] [.ref a] _ _ rfl hr env (hbind s (.ref a)) (.cons rfl .nil) (hsp H hS)) fun
    | .error e, s', h => False.elim (let ⟨_, _, _, _, _, _, _, _, _, _, _, _, z⟩ := h; z)
    | .ok .next, _, h => False.elim h
    | .ok .brk, _, h => False.elim h
    | .ok .cont, _, h => False.elim h
    | .ok (.ret u), s', ⟨v, H', os, bare, un, hok', r', q⟩ => ?_
  cases (show v = .bl true from q)
  cases (show u = Value.bool true from r')
  refine ⟨rfl, OldK.of_keep fun b o e => ?_, os, bare⟩
  rcases only b with n | ⟨ob, xs, z⟩
  · exact un.keep b o e n (fun z => nomatch z) (by simp)
  · obtain ⟨e1, _⟩ := hok b _ z
    obtain ⟨e2, _⟩ := hok' b _ (un.frzs b ob _ z)
    cases e.symm.trans e1
    exact e2
end
theorem walk_ofG {l : PySem.W.OpenLaw} {n k : Nat} {q : Program} {loose : List Str} {XP : (Str → Option Value) → Heap → Prop} {YP : World → Heap → Prop} {d : DefRec} {K : Params → PySem.W.Frag} {sp : World → Sp} {x : Str}
    (hn : l.most = some n) (hn2 : n ≤ sizeLine) (hdf : d.params.defaults = []) (hr : Room k callerA) (hY : ∀ (w : World) (h : Heap), YP w h → (K w.params).In h)
    (F : ∀ (w : World) (mg : Str → Option Value) (fa : Addr) (h : Heap), (K w.params).In h → h.Ns mainGlobals mg → mg d.name = some (.ref fa) → ∃ fd : FuncData, (∀ (s : Shared) (u : Value), BindsTo s fd ⟨[u], []⟩ [(x, u)]) ∧ ∀ base : Heap, (K w.params).In base → base.Ns mainGlobals mg → FnG l.prog w (K w.params) mg base (L2.CX l.prog w) k fa fd [x] (sp w))
    (hsp : ∀ (w : World) (H : Hp) (a : Addr) (ns : List Int), ns.length ≤ n → SqL (K w.params) H a (ns.map V.int) → sp w [.ref a] H (fun v _ => v = .bl true) fun _ _ _ => False) : PySem.W.WalkO q loose XP YP l.row.toRowW d [] (fun f vs => PySem.call f vs) := by
  refine Att.attach_call hn hdf fun w s₀ s₁ mg mb fa o pm cd doc a vs ns G Y _ _ _ hmg hobj hints hlen hg => ?_
  have KX := hY w _ Y
  obtain ⟨fd, hb, hF⟩ := F w mg fa _ KX G.T.g hmg
  exact call_lawG KX G.T.g G.T.b G.T.builtins G.T.nolimit hg hobj hints (Nat.le_trans hlen hn2) hr hF hb fun H hS => hsp w H a ns hlen hS
end My

set_option Elab.async false
set_option linter.all false
set_option maxRecDepth 100000
set_option maxHeartbeats 2000000
/-! ### repr of a whole number or a truth value -/
namespace My
open PySem L2
/-- the text of a scalar -/
def rpS : V → Str
  | .int i => toString i
  | .bl b => if b then "True" else "False"
  | _ => ""
def rReprS : List V → Hp → VK → Prop := fun xs H Q => (∃ i : Int, xs = [.int i] ∧ i.natAbs.log2 < 1920 ∧ Q (.str (rpS (.int i))) H) ∨ (∃ b, xs = [.bl b] ∧ Q (.str (rpS (.bl b))) H)
theorem call_reprS {X : Cx} : CallR X (.builtin "repr") rReprS := by
  intro pins s σ H xs us Q I r h
  rcases h with ⟨i, rfl, hz, q⟩ | ⟨b, rfl, q⟩
  · obtain ⟨u, rfl, t, rfl⟩ := vals1 r
    exact PySem.P.repr_of_int hz ⟨.str _, H, I.tok _, ⟨_, rfl⟩, q⟩
  · obtain ⟨u, rfl, t⟩ := vals1 r
    have : u = .bool b := t
    subst this
    exact PySem.P.repr_of_bool ⟨.str _, H, I.tok _, ⟨_, rfl⟩, q⟩
end My

set_option Elab.async false
set_option linter.all false
set_option maxRecDepth 100000
set_option maxHeartbeats 4000000
/-! ### data of any depth: kept, walked in lists or tuples -/
namespace My
open PySem PySem.Spec PyProof.Rows L2
/-- no list or tuple stands in S -/
def NoSq (H : Hp) (S : List Addr) : Prop := ∀ a ∈ S, (∀ xs, H a ≠ some (.lst xs)) ∧ (∀ xs, H a ≠ some (.tup xs)) ∧ ∀ o u, H a ≠ some (.frz o u)
theorem noSq0 {H : Hp} : NoSq H [] := fun a h => nomatch h
theorem noSq1 {H : Hp} {a C dx : Addr} {fs : List (Str × V)} (h : H a = some (.ins C dx fs)) : NoSq H [a] := fun b hb => by
  rw [List.mem_singleton.mp hb, h]
  exact ⟨fun _ z => (by cases z), fun _ z => (by cases z), fun _ _ z => (by cases z)⟩
theorem Kp.lsN {S : List Addr} {K : PySem.W.Frag} {H H' : Hp} {a : Addr} {xs : List V} (k : Kp S H H') (n : NoSq H S) (h : SqL K H a xs) : SqL K H' a xs := by
  rcases h with (h | ⟨o, h⟩) | h
  · exact .inl (.inl (k _ _ (fun z => (n a z).1 _ h) h))
  · exact .inl (.inr ⟨o, k _ _ (fun z => (n a z).2.2 _ _ h) h⟩)
  · exact .inr h
theorem Kp.tpN {S : List Addr} {K : PySem.W.Frag} {H H' : Hp} {a : Addr} {xs : List V} (k : Kp S H H') (n : NoSq H S) (h : SqT K H a xs) : SqT K H' a xs := by
  rcases h with (h | ⟨o, h⟩) | h
  · exact .inl (.inl (k _ _ (fun z => (n a z).2.1 _ h) h))
  · exact .inl (.inr ⟨o, k _ _ (fun z => (n a z).2.2 _ _ h) h⟩)
  · exact .inr h
mutual
theorem dpN {S : List Addr} {K : PySem.W.Frag} {H H' : Hp} (k : Kp S H H') (n : NoSq H S) : ∀ {d : PyData} {v : V}, Dp K H v d → Dp K H' v d
  | _, _, .non => .non
  | _, _, .bl b => .bl b
  | _, _, .int i => .int i
  | _, _, .str x => .str x
  | _, _, .lst e h => .lst (k.lsN n e) (dpAllN k n h)
  | _, _, .tup e h => .tup (k.tpN n e) (dpAllN k n h)
theorem dpAllN {S : List Addr} {K : PySem.W.Frag} {H H' : Hp} (k : Kp S H H') (n : NoSq H S) : ∀ {ds : List PyData} {vs : List V}, DpAll K H vs ds → DpAll K H' vs ds
  | _, _, .nil => .nil
  | _, _, .cons h t => .cons (dpN k n h) (dpAllN k n t)
end
mutual
def noLs : PyData → Bool
  | .list _ => false
  | .tuple ds => noLsAll ds
  | _ => true
def noLsAll : List PyData → Bool
  | [] => true
  | d :: ds => noLs d && noLsAll ds
end
/-- .. stand as before, where lists change -/
def NoTp (H : Hp) (S : List Addr) : Prop := ∀ a ∈ S, (∀ xs, H a ≠ some (.tup xs)) ∧ ∀ o u, H a ≠ some (.frz o u)
theorem noTp1 {H : Hp} {a : Addr} {xs : List V} (h : H a = some (.lst xs)) : NoTp H [a] := fun b hb => by
  rw [List.mem_singleton.mp hb, h]
  exact ⟨fun _ z => (by cases z), fun _ _ z => (by cases z)⟩
theorem Kp.tpT {S : List Addr} {K : PySem.W.Frag} {H H' : Hp} {a : Addr} {xs : List V} (k : Kp S H H') (n : NoTp H S) (h : SqT K H a xs) : SqT K H' a xs := by
  rcases h with (h | ⟨o, h⟩) | h
  · exact .inl (.inl (k _ _ (fun z => (n a z).1 _ h) h))
  · exact .inl (.inr ⟨o, k _ _ (fun z => (n a z).2 _ _ h) h⟩)
  · exact .inr h
mutual
theorem dpT {S : List Addr} {K : PySem.W.Frag} {H H' : Hp} (k : Kp S H H') (n : NoTp H S) : ∀ {d : PyData} {v : V}, Dp K H v d → noLs d = true → Dp K H' v d
  | _, _, .non, _ => .non
  | _, _, .bl b, _ => .bl b
  | _, _, .int i, _ => .int i
  | _, _, .str x, _ => .str x
  | _, _, .lst e h, z => by cases z
  | _, _, .tup e h, z => .tup (k.tpT n e) (dpAllT k n h z)
theorem dpAllT {S : List Addr} {K : PySem.W.Frag} {H H' : Hp} (k : Kp S H H') (n : NoTp H S) : ∀ {ds : List PyData} {vs : List V}, DpAll K H vs ds → noLsAll ds = true → DpAll K H' vs ds
  | _, _, .nil, _ => .nil
  | _, _, .cons h t, z => by
    have z' := Bool.and_eq_true_iff.mp z
    exact .cons (dpT k n h z'.1) (dpAllT k n t z'.2)
end
theorem dpLen {K : PySem.W.Frag} {H : Hp} : ∀ {ds : List PyData} {vs : List V}, DpAll K H vs ds → vs.length = ds.length
  | _, _, .nil => rfl
  | _, _, .cons h t => by rw [List.length_cons, List.length_cons, dpLen t]
theorem dpGet {K : PySem.W.Frag} {H : Hp} : ∀ {ds : List PyData} {vs : List V}, DpAll K H vs ds → ∀ {i : Nat} {v : V}, vs[i]? = some v → ∃ d, ds[i]? = some d ∧ Dp K H v d
  | _, _, .nil, _, _, e => nomatch e
  | _, _, .cons h t, 0, _, e => by cases e; exact ⟨_, rfl, h⟩
  | _, _, .cons h t, i + 1, _, e => dpGet t (i := i) e
theorem dpApp {K : PySem.W.Frag} {H : Hp} : ∀ {ds es : List PyData} {vs us : List V}, DpAll K H vs ds → DpAll K H us es → DpAll K H (vs ++ us) (ds ++ es)
  | _, _, _, _, .nil, k => k
  | _, _, _, _, .cons h t, k => .cons h (dpApp t k)
theorem dpTake {K : PySem.W.Frag} {H : Hp} : ∀ {ds : List PyData} {vs : List V}, DpAll K H vs ds → ∀ i, DpAll K H (vs.take i) (ds.take i)
  | _, _, .nil, i => by rw [List.take_nil, List.take_nil]; exact .nil
  | _, _, .cons h t, 0 => .nil
  | _, _, .cons h t, i + 1 => .cons h (dpTake t i)
theorem dpDrop {K : PySem.W.Frag} {H : Hp} : ∀ {ds : List PyData} {vs : List V}, DpAll K H vs ds → ∀ i, DpAll K H (vs.drop i) (ds.drop i)
  | _, _, .nil, i => by rw [List.drop_nil, List.drop_nil]; exact .nil
  | _, _, .cons h t, 0 => .cons h t
  | _, _, .cons h t, i + 1 => dpDrop t i
theorem dpRev {K : PySem.W.Frag} {H : Hp} : ∀ {ds : List PyData} {vs : List V}, DpAll K H vs ds → DpAll K H vs.reverse ds.reverse
  | _, _, .nil => .nil
  | _, _, .cons h t => by
    rw [List.reverse_cons, List.reverse_cons]
    exact dpApp (dpRev t) (.cons h .nil)
theorem dpStrs {K : PySem.W.Frag} {H : Hp} : ∀ zs : List Str, DpAll K H (zs.map V.str) (zs.map PyData.str)
  | [] => .nil
  | z :: zs => .cons (.str z) (dpStrs zs)
/-- an object walked that is a list or a tuple -/
def SqAny (K : PySem.W.Frag) (H : Hp) (a : Addr) (xs : List V) : Prop := SqL K H a xs ∨ SqT K H a xs
theorem Kp.anyN {S : List Addr} {K : PySem.W.Frag} {H H' : Hp} {a : Addr} {xs : List V} (k : Kp S H H') (n : NoSq H S) (h : SqAny K H a xs) : SqAny K H' a xs := h.imp (k.lsN n) (k.tpN n)
def iSeq (K : PySem.W.Frag) (tl : TE) : TI := fun σ H R => tl σ H fun x H1 => ∃ a, x = .ref a ∧ (((∃ xs, SqL K H1 a xs) ∧ R (Itl K a) H1) ∨ ((∃ xs, SqT K H1 a xs) ∧ R (Itt K a) H1))
section
variable {X : Cx} {tg : Expr}
theorem pi_seq {l : Expr} {tl : TE} (hl : PE X l tl) : PI X tg l (iSeq X.K tl) := by
  refine ⟨fun pins s σ H R I h => thn (hl.run pins s σ H _ I h) ?_⟩
  rintro v s1 ⟨x, H1, I1, r1, a, rfl, ⟨⟨xs, hq⟩, q⟩ | ⟨⟨xs, hq⟩, q⟩⟩
  · cases r1
    obtain ⟨its, rv, p, hz⟩ := I1.list hq
    refine wpAny_pyIter_list p.isList ⟨_, [_], _, _, H1, rfl, I1.kept (t' := s1.toks) (fun b o e => Heap.get?_push_of_some _ e), turn_list a _, ⟨_, Heap.get?_push_size _ rfl, rfl, rfl⟩, fun b hb => ?_, q⟩
    rw [List.mem_singleton.mp hb]
    exact I1.fpOk (Nat.le_refl _) (I1.hok.fresh (Nat.le_refl _))
  · cases r1
    obtain ⟨its, rv, p, hz⟩ := I1.tuple hq
    refine wpAny_pyIter_tuple (show s1.heap.IsTuple a its.toArray from p) ⟨_, [_], _, _, H1, rfl, I1.kept (t' := s1.toks) (fun b o e => Heap.get?_push_of_some _ e), turn_tuple a _, ⟨_, Heap.get?_push_size _ rfl, rfl, rfl⟩, fun b hb => ?_, q⟩
    rw [List.mem_singleton.mp hb]
    exact I1.fpOk (Nat.le_refl _) (I1.hok.fresh (Nat.le_refl _))
/-- x in s, s a list or a tuple -/
def rInS (K : PySem.W.Frag) (neg : Bool) : R2 := fun x y H Q => ∃ (d : PyData) (ds : List PyData) (a : Addr) (xs : List V), y = .ref a ∧ SqAny K H a xs ∧ DpAll K H xs ds ∧ Dp K H x d ∧ SeqAt.shaped d = true ∧ SeqAt.shaped (.list ds) = true ∧ Q (.bl (if neg then !(ds.any fun z => PyData.eqv z d) else ds.any fun z => PyData.eqv z d)) H
theorem op_inS (hu : X.A.units + 65 < cLine) : OpR X (compareOp .In) (rInS X.K false) := by
  rintro pins s σ H x y v u Q I rx ry ⟨d, ds, a, xs, rfl, ha | ha, hx, hd, s1, s2, q⟩
  · exact op_inD hu pins s σ H x _ v u Q I rx ry ⟨d, ds, hd, .lst ha hx, s1, s2, q⟩
  · exact op_inT hu pins s σ H x _ v u Q I rx ry ⟨d, ds, hd, .tup ha hx, s1, s2, q⟩
theorem op_notInS (hu : X.A.units + 65 < cLine) : OpR X (compareOp .NotIn) (rInS X.K true) := by
  rintro pins s σ H x y v u Q I rx ry ⟨d, ds, a, xs, rfl, ha | ha, hx, hd, s1, s2, q⟩
  · exact op_notInD hu pins s σ H x _ v u Q I rx ry ⟨d, ds, hd, .lst ha hx, s1, s2, q⟩
  · exact op_notInT hu pins s σ H x _ v u Q I rx ry ⟨d, ds, hd, .tup ha hx, s1, s2, q⟩
theorem hu5 {A : Around} {k : Nat} (hr : Room k A) : A.units + 65 < cLine := by have := hr.un; omega
end
section
variable {K : PySem.W.Frag} {H H0 : Hp} {a : Addr} {xs : List V} {g : TG} {tb : TS} {D : Ends} {σ : L2.St} {i : Nat}
/-- for x in s, s a list or a tuple that stands still -/
theorem forS (Pv : Nat → L2.St → Hp → Prop) (hσ : σ[i]? = some (some (.ref a))) (hS : SqAny K H a xs) (h0 : Pv 0 σ H) (hk : ∀ j σ' H', Pv j σ' H' → Kp [] H H')
    (hs : ∀ j x σ H, xs[j]? = some x → Pv j σ H → g x σ H fun σ2 H2 => tb { D with nx := Pv (j + 1), ct := Pv (j + 1), bk := D.nx } σ2 H2) (hd : ∀ σ H, Pv xs.length σ H → D.nx σ H) : tFor (iSeq K (tVar i)) g tb D σ H := by
  rcases hS with h | h
  · exact ⟨_, hσ, a, rfl, .inl ⟨⟨xs, h⟩, for_list Pv h0 (fun j σ' H' _ p => (hk j σ' H' p).ls not0 h) hs hd⟩⟩
  · exact ⟨_, hσ, a, rfl, .inr ⟨⟨xs, h⟩, for_tup Pv h0 (fun j σ' H' _ p => (hk j σ' H' p).tp not0 h) hs hd⟩⟩
end
end My

set_option Elab.async false
set_option linter.all false
set_option maxRecDepth 100000
set_option maxHeartbeats 4000000
/-! ### a loop over a dict's keys -/
namespace My
open PySem L2
theorem forKeys {g : TG} {tb : TS} {D : Ends} {σ : L2.St} {H : Hp} {d : Addr} {kvs : List (Key × V)} {i : Nat} (hσ : σ[i]? = some (some (.ref d))) (hd : H d = some (.dK kvs)) (Pv : Obj → Nat → L2.St → Hp → Prop)
    (h0 : ∀ od, Pv od 0 σ (upd H d (.frz od (.dK kvs)))) (hk : ∀ od j σ H', Pv od j σ H' → H' d = some (.frz od (.dK kvs)))
    (hs : ∀ od j k v σ H', kvs[j]? = some (k, v) → Pv od j σ H' → g (kV k) σ H' fun σ2 H2 => tb ⟨Pv od (j + 1), fun v H' => H' d = some (.frz od (.dK kvs)) ∧ D.rt v (upd H' d (.dK kvs)), fun σ' H' => H' d = some (.frz od (.dK kvs)) ∧ D.nx σ' (upd H' d (.dK kvs)), Pv od (j + 1)⟩ σ2 H2)
    (fin : ∀ od σ' H', Pv od kvs.length σ' H' → D.nx σ' (upd H' d (.dK kvs))) : tLock (tFor (iKeys (tVar i)) g tb) D σ H := by
  refine ⟨d, .dK kvs, hd, True.intro, fun od => ?_⟩
  refine ⟨.ref d, hσ, d, od, rfl, .inl ⟨kvs, upd_same, ?_⟩⟩
  refine for_it (n := kvs.length) walk_keys (Pv od) (h0 od) (fun j σ H _ p => hk od j σ H p) (fun j x σ H1 H' hj p y => ?_) fun σ H p => ⟨hk od _ σ H p, fin od σ H p⟩
  obtain ⟨rfl, k, v, e, rfl⟩ := y
  exact hs od j k v σ _ e p
theorem noSqD {H : Hp} {d : Addr} {kvs : List (Key × V)} (h : H d = some (.dK kvs)) : NoSq H [d] := fun b hb => by
  rw [List.mem_singleton.mp hb, h]
  exact ⟨fun _ z => (by cases z), fun _ z => (by cases z), fun _ _ z => (by cases z)⟩
mutual
theorem dpM {K : PySem.W.Frag} {H H' : Hp} (hl : ∀ a xs, SqL K H a xs → SqL K H' a xs) (ht : ∀ a xs, SqT K H a xs → SqT K H' a xs) : ∀ {d : PyData} {v : V}, Dp K H v d → Dp K H' v d
  | _, _, .non => .non
  | _, _, .bl b => .bl b
  | _, _, .int i => .int i
  | _, _, .str x => .str x
  | _, _, .lst e h => .lst (hl _ _ e) (dpAllM hl ht h)
  | _, _, .tup e h => .tup (ht _ _ e) (dpAllM hl ht h)
theorem dpAllM {K : PySem.W.Frag} {H H' : Hp} (hl : ∀ a xs, SqL K H a xs → SqL K H' a xs) (ht : ∀ a xs, SqT K H a xs → SqT K H' a xs) : ∀ {ds : List PyData} {vs : List V}, DpAll K H vs ds → DpAll K H' vs ds
  | _, _, .nil => .nil
  | _, _, .cons h t => .cons (dpM hl ht h) (dpAllM hl ht t)
end
theorem unfL {K : PySem.W.Frag} {H : Hp} {d : Addr} {o : Obj} {kvs : List (Key × V)} {u : HO} (h : H d = some (.frz o (.dK kvs))) : ∀ a xs, SqL K H a xs → SqL K (upd H d u) a xs := fun a xs z => by
  rcases z with (z | ⟨o2, z⟩) | z
  · exact .inl (.inl (by rw [upd_ne (fun e => by rw [e, h] at z; cases z)]; exact z))
  · exact .inl (.inr ⟨o2, by rw [upd_ne (fun e => by rw [e, h] at z; cases z)]; exact z⟩)
  · exact .inr z
theorem unfT {K : PySem.W.Frag} {H : Hp} {d : Addr} {o : Obj} {kvs : List (Key × V)} {u : HO} (h : H d = some (.frz o (.dK kvs))) : ∀ a xs, SqT K H a xs → SqT K (upd H d u) a xs := fun a xs z => by
  rcases z with (z | ⟨o2, z⟩) | z
  · exact .inl (.inl (by rw [upd_ne (fun e => by rw [e, h] at z; cases z)]; exact z))
  · exact .inl (.inr ⟨o2, by rw [upd_ne (fun e => by rw [e, h] at z; cases z)]; exact z⟩)
  · exact .inr z
/-- over a loop: what stood before stands behind it -/
theorem Kp.unlock {H H' : Hp} {d : Addr} {o : Obj} {u : HO} (hd : H d = some u) (k : Kp [] (upd H d (.frz o u)) H') : Kp [] H (upd H' d u) := fun a x _ e => by
  by_cases z : a = d
  · subst z; rw [upd_same, ← hd, e]
  · rw [upd_ne z]
    exact k a x not0 (by rw [upd_ne z]; exact e)
theorem Kp.lock {H : Hp} {d : Addr} {u : HO} : Kp [d] H (upd H d u) := (Kp.refl [d] H).put (by simp)
end My

set_option Elab.async false
set_option linter.all false
set_option maxRecDepth 100000
set_option maxHeartbeats 4000000
/-! ### a def that asks repr, called where nothing is being shown; repr of any data -/
namespace My
open PySem PySem.Spec PyProof.Rows L2
section
variable {X : Cx} {k : Nat} {f : Addr} {fd : FuncData} {ps : List Str} {sp : Sp} {E : XK} {x : Str} {p pos : Pos} {e : Expr} {es : List Expr} {t : TA}
theorem pe_callG (F : FnG X.prog X.w X.K X.mg X.base (L2.CX X.prog X.w) k f fd ps sp) (gd : X.A.guards = some []) (hr : Room k X.A) (hg : Gl X x) (hm : X.mg x = some (.ref f)) (hk : PySem.W.keepIn X.K (.ref f) = true) (hb : Binds X.K fd ps []) (hl : ∀ vs H Q E, sp vs H Q E → vs.length = ps.length) (hx : Passes (L2.CX X.prog X.w) X E)
    (ha : PA X (e :: es) t) (hdb : (x == ("__debug__" : Str)) = false := by decide) (he : starEach (e :: es) X.env = (false, eval e X.env) :: starEach es X.env := by rfl) (hpl : (backTo pos (starEach es X.env)).any (·.1) = false := by rfl) :
    PE X (.Call (.Name x p) (e :: es) [] pos) (tCall sp [] E t) := by
  refine ⟨fun pins s σ H Q I h => ?_⟩
  refine wpAny_Call_Name_kw (ld_glob I hg hm ?_ hdb)
  refine PySem.W.callWith_K (h₀ := X.base) I.ok.mod.kin hk (thn (ha.run pos pins s σ H _ I h) fun us s1 ⟨vs, H1, I1, r, q⟩ => ⟨I1.kIn, ?_⟩) he hpl
  have q : sp (vs ++ []) H1 Q E := q
  rw [List.append_nil] at q
  have hlen : us.length = ps.length := by rw [← r.length]; exact hl _ _ _ _ q
  have b := hb s1 us I1.kIn (by rw [List.append_nil]; exact hlen)
  rw [List.append_nil] at b
  refine wpAny_call (codeAny_mono (F.go X.A X.stack s1 H1 ⟨us, []⟩ us vs Q E gd hr I1.env0 b r q) fun r s' hq => ?_)
  cases r with
  | error e => exact hx pins σ H1 s1 e s' I1 hq
  | ok fl =>
    cases fl with
    | ret u => exact I1.after hq
    | next => exact False.elim hq
    | brk => exact False.elim hq
    | cont => exact False.elim hq
end
/-- data that may be shown: at most k deep, of at most b letters and items -/
structure Sh (k b : Nat) (d : PyData) : Prop where
  lay : PyData.canLay0 d = true
  shw : d.showable = true
  int : d.intsShort 13 = true
  dep : d.depth ≤ k
  blk : d.bulk ≤ b
theorem Sh.mono {k b k2 b2 : Nat} {d : PyData} (h : Sh k b d) (hk : k ≤ k2) (hb : b ≤ b2) : Sh k2 b2 d := ⟨h.lay, h.shw, h.int, Nat.le_trans h.dep hk, Nat.le_trans h.blk hb⟩
theorem Sh.len {k b : Nat} {d : PyData} (h : Sh k b d) (hb : b ≤ 1000000) : d.shown.length ≤ sizeLine := PyData.shown_fits_bulk (B := 13) (by decide) (by decide) (PyData.leavesShort_of_canLay0 13 d h.lay h.int) (by have := h.blk; omega)
theorem Sh.no {k b : Nat} {d : PyData} (h : Sh k b d) : d.hasDict = false := PyData.hasDict_of_canLay d h.lay
theorem sh_all {k b : Nat} : ∀ {ds : List PyData}, (∀ d ∈ ds, Sh k b d) → PyData.canLayAll0 ds = true ∧ PyData.showableAll ds = true ∧ PyData.intsShortAll 13 ds = true ∧ PyData.depthAll ds ≤ k ∧ PyData.bulkAll ds ≤ (b + 1) * ds.length
  | [], _ => ⟨rfl, rfl, rfl, Nat.zero_le _, Nat.zero_le _⟩
  | d :: r, h => by
    have ih := sh_all (ds := r) fun x hx => h x (List.mem_cons_of_mem _ hx)
    have h1 := h d List.mem_cons_self
    refine ⟨?_, ?_, ?_, ?_, ?_⟩
    · show (PyData.canLay0 d && PyData.canLayAll0 r) = true
      rw [h1.lay, ih.1]; rfl
    · show (PyData.showable d && PyData.showableAll r) = true
      rw [h1.shw, ih.2.1]; rfl
    · show (PyData.intsShort 13 d && PyData.intsShortAll 13 r) = true
      rw [h1.int, ih.2.2.1]; rfl
    · show max d.depth (PyData.depthAll r) ≤ k
      have := h1.dep
      have := ih.2.2.2.1
      omega
    · show d.bulk + 1 + PyData.bulkAll r ≤ (b + 1) * (r.length + 1)
      have := h1.blk
      have := ih.2.2.2.2
      rw [Nat.mul_succ]
      omega
theorem sh_tup {k b : Nat} {ds : List PyData} (h : ∀ d ∈ ds, Sh k b d) : Sh (k + 1) ((b + 1) * ds.length) (.tuple ds) := by
  obtain ⟨a1, a2, a3, a4, a5⟩ := sh_all h
  exact ⟨a1, a2, a3, Nat.succ_le_succ a4, a5⟩
theorem sh_lst {k b : Nat} {ds : List PyData} (h : ∀ d ∈ ds, Sh k b d) : Sh (k + 1) ((b + 1) * ds.length) (.list ds) := by
  obtain ⟨a1, a2, a3, a4, a5⟩ := sh_all h
  exact ⟨a1, a2, a3, Nat.succ_le_succ a4, a5⟩
theorem sh_none : Sh 1 0 .none := ⟨rfl, rfl, rfl, by simp [PyData.depth], Nat.le_refl _⟩
theorem sh_int {i : Int} (h : i.natAbs < 1000) : Sh 1 0 (.int i) := ⟨rfl, decide_eq_true (by
  have : i.natAbs.log2 ≤ (1000 : Nat).log2 := by
    by_cases z : i.natAbs = 0
    · rw [z]; decide
    · exact (Nat.le_log2 (by decide)).mpr (Nat.le_trans (Nat.log2_self_le z) (Nat.le_of_lt h))
  exact Nat.lt_of_le_of_lt this (by decide)), decide_eq_true (PyData.shown_int_le (by omega)), by simp [PyData.depth], Nat.le_refl _⟩
theorem sh_str {z : Str} {b : Nat} (h : PyData.canLay0 (.str z) = true) (hb : z.length ≤ b) : Sh 1 b (.str z) := ⟨h, rfl, rfl, by simp [PyData.depth], hb⟩
/-- repr of any data -/
def rReprA : List V → Hp → VK → Prop := fun xs H Q => ∃ (v : V) (d : PyData), xs = [v] ∧ Dq H v d ∧ Sh 60 1000000 d ∧ Q (.str d.shown) H
theorem call_reprA {X : Cx} (gd : X.A.guards = some [] ∧ X.A.units + 64 < cLine) : CallR X (.builtin "repr") rReprA := by
  intro pins s σ H xs us Q I r h
  obtain ⟨v, d, rfl, hd, hs, q⟩ := h
  obtain ⟨u, rfl, ru⟩ := vals1 r
  have hz := hs.len (Nat.le_refl _)
  cases hd with
  | non =>
    cases (show u = Value.none from ru)
    exact PySem.P.repr_of_none ⟨.str _, H, I.tok _, ⟨_, rfl⟩, q⟩
  | bl b =>
    have : u = .bool b := ru
    subst this
    exact PySem.P.repr_of_bool ⟨.str _, H, I.tok _, ⟨_, rfl⟩, q⟩
  | int i =>
    obtain ⟨t, rfl⟩ := ru
    exact PySem.P.repr_of_int (of_decide_eq_true hs.shw) ⟨.str _, H, I.tok _, ⟨_, rfl⟩, q⟩
  | str x =>
    obtain ⟨t, rfl⟩ := ru
    exact PySem.P.repr_of_str ⟨.str _, H, I.tok _, ⟨_, rfl⟩, q⟩ hz
  | lst e hh =>
    obtain ⟨as, rd⟩ := Dp.reads I _ _ u (Dq.dp (.lst e hh)) ru
    cases (show u = Value.ref _ from ru)
    exact repr_of_reads' rd hs.shw (PyData.noDict_hsm hs.no) gd.1 (by have := hs.dep; omega) (fun _ _ e => e) (fun h' t tk hk => ⟨.str _, H, I.kept (t' := tk) hk, ⟨_, rfl⟩, q⟩) hz
  | tup e hh =>
    obtain ⟨as, rd⟩ := Dp.reads I _ _ u (Dq.dp (.tup e hh)) ru
    cases (show u = Value.ref _ from ru)
    exact repr_of_reads' rd hs.shw (PyData.noDict_hsm hs.no) gd.1 (by have := hs.dep; omega) (fun _ _ e => e) (fun h' t tk hk => ⟨.str _, H, I.kept (t' := tk) hk, ⟨_, rfl⟩, q⟩) hz
end My

set_option Elab.async false
set_option linter.all false
set_option maxRecDepth 100000
set_option maxHeartbeats 4000000
/-! ### slices and sums of any tuples, as their callers read them -/
namespace My
open PySem L2
theorem cut_to (xs : List V) (k : Nat) : cutV xs none (some (k : Int)) = xs.take k := by
  unfold cutV
  rw [HT.sIx_none, HT.sIx_nat, List.drop_zero, Nat.sub_zero]
  by_cases h : k ≤ xs.length
  · rw [Nat.min_eq_left h]
  · rw [Nat.min_eq_right (by omega), List.take_length, List.take_of_length_le (by omega)]
theorem cut_from (xs : List V) (k : Nat) : cutV xs (some (k : Int)) none = xs.drop k := by
  unfold cutV
  rw [HT.sIx_none, HT.sIx_nat]
  by_cases h : k ≤ xs.length
  · rw [Nat.min_eq_left h, List.take_of_length_le (by rw [List.length_drop]; omega)]
  · rw [Nat.min_eq_right (by omega), List.drop_length, List.drop_of_length_le (by omega), List.take_nil]
section
variable {K : PySem.W.Frag} {H : Hp} {a b : Addr} {xs ys : List V} {Q : VK} {k : Nat} {i : Int}
theorem slA_to (e : i = (k : Nat)) (h : H a = some (.tup xs)) (q : ∀ r H', H' r = some (.tup (xs.take k)) → Kp [] H H' → Q (.ref r) H') : rSlA K (.ref a) none (some i) H Q := by
  subst e
  refine ⟨a, xs, rfl, sq_t h, fun z => q a H ?_ (Kp.refl _ _), fun _ p np => q p _ (by rw [upd_same, cut_to]) (Kp.new np)⟩
  have z2 := z.2
  rw [HT.sIx_nat] at z2
  rw [h, List.take_of_length_le (by omega)]
theorem slA_from (e : i = (k : Nat)) (h : H a = some (.tup xs)) (q : ∀ r H', H' r = some (.tup (xs.drop k)) → Kp [] H H' → Q (.ref r) H') : rSlA K (.ref a) (some i) none H Q := by
  subst e
  refine ⟨a, xs, rfl, sq_t h, fun z => q a H ?_ (Kp.refl _ _), fun _ p np => q p _ (by rw [upd_same, cut_from]) (Kp.new np)⟩
  have z1 := z.1
  rw [HT.sIx_nat] at z1
  by_cases h0 : k = 0
  · rw [h, h0]; rfl
  · have : xs = [] := List.eq_nil_of_length_eq_zero (by omega)
    rw [h, this, List.drop_nil]
theorem catA_use (ha : H a = some (.tup xs)) (hb : H b = some (.tup ys)) (hl : xs.length + ys.length ≤ 1000) (q : ∀ r H', H' r = some (.tup (xs ++ ys)) → Kp [] H H' → Q (.ref r) H') : rCatA K (.ref a) (.ref b) H Q := by
  refine ⟨a, b, xs, ys, rfl, rfl, sq_t ha, sq_t hb, small (by omega), fun e => q b H ?_ (Kp.refl _ _), fun _ e => q a H ?_ (Kp.refl _ _), fun _ _ p np => q p _ upd_same (Kp.new np)⟩
  · rw [hb, e]; rfl
  · rw [ha, e, List.append_nil]
end
end My

set_option Elab.async false
set_option linter.all false
set_option maxRecDepth 100000
set_option maxHeartbeats 4000000
/-! ### methods and called objects within a try -/
namespace My
open PySem L2 StX PySem.Spec PyProof.Rows
def tMethT (C : Addr) (m : Str) (sp : Sp) (E : L2.St → XK) (ta : TE) (t : TA) : TE := fun σ H Q => ta σ H fun x H1 => ∃ a dx fs, x = .ref a ∧ H1 a = some (.ins C dx fs) ∧ fs.lookup m = none ∧ t σ H1 fun vs H2 => sp (.ref a :: vs) H2 Q (E σ)
section
variable {X : Cx} {CX : CXT} {C g : Addr} {fd : FuncData} {ps : List Str} {sp : Sp} {E : L2.St → XK} {k : Nat} {o e : Expr} {es : List Expr} {ta : TE} {t : TA} {pos apos : Pos} {m : Str} {f : Addr}
theorem pe_methT {pl : Sem Bool} (c : Cls X.K C) (hm : Meth X.K C m f) (F : FnOk X.prog X.w X.K X.mg X.base CX k f fd ps sp) (hr : Room k X.A) (hb : Binds X.K fd ps []) (hx : ∀ σ, PassesAt CX X σ (E σ)) (he : PE X o ta) (ha : PA X (e :: es) t)
    (hst : starEach (e :: es) X.env = (false, eval e X.env) :: starEach es X.env := by rfl) (hpl : (backTo pos (starEach es X.env)).any (·.1) = false := by rfl)
    (ht : eval (.Call (.Attribute o m apos) (e :: es) [] pos) X.env = (do
      let ov ← eval o X.env
      standAt apos.atName
      let (f, first) ← holding [ov] (getMethod ov m pl)
      callWith pos f first (backTo pos (starEach (e :: es) X.env)) (backToKw pos (keywordEach [] X.env))) := by rfl) :
    PE X (.Call (.Attribute o m apos) (e :: es) [] pos) (tMethT C m sp E ta t) := by
  refine ⟨fun pins s σ H Q I h => ?_⟩
  refine PySem.W.methodCall_KW (pl := pl) (thn (he.run pins s σ H _ I h) fun u s1 ⟨x, H1, I1, rx, a, dx, fs, ex, ea, l, q⟩ => ?_) ht
  subst ex
  obtain rfl : u = Value.ref a := rx
  refine getmeth_ok I1 ea c hm l ?_
  refine PySem.W.callWith_K (first := [.ref a]) (h₀ := X.base) I.ok.mod.kin hm.kp (thn (ha.run pos pins s1 σ H1 _ I1 q) fun us s2 ⟨vs, H2, I2, r, q2⟩ => ⟨I2.kIn, ?_⟩) hst hpl
  exact run_fnS (us := .ref a :: us) (vs := .ref a :: vs) F hr hb (hx σ) I2 (.cons rfl r) q2
def tCallOT (C : Addr) (sp : Sp) (E : L2.St → XK) (tf : TE) (t : TA) : TE := fun σ H Q => tf σ H fun y H1 => ∃ a, y = V.ref a ∧ t σ H1 fun vs H2 => (∃ dx fs, H2 a = some (.ins C dx fs)) ∧ sp (V.ref a :: vs) H2 Q (E σ)
theorem run_fnRS {pins : List (Addr × Obj)} {σ : L2.St} {H : Hp} {s : Shared} {f : Addr} {Q : VK} {E : L2.St → XK} {us : List Value} {vs : List V} (F : FnR X.prog X.w X.K X.mg X.base CX k f sp) (hr : Room k X.A) (hx : PassesAt CX X σ (E σ)) (I : Inv X pins σ H s) (r : Vals vs us) (h : sp vs H Q (E σ)) :
    codeAny (model X.prog X.w) X.A (.call (.ref f) ⟨us, []⟩) (fun r s' => match r with | .ok (.ret v) => EP X pins σ Q v s' | .ok _ => False | .error e => X.xe e s') s := by
  refine codeAny_mono (F X.A X.stack s H us vs Q (E σ) hr I.env0 r h) fun r s' hq => ?_
  cases r with
  | error e => exact hx pins H s e s' I hq
  | ok fl =>
    cases fl with
    | ret u => exact I.after hq
    | next => exact False.elim hq
    | brk => exact False.elim hq
    | cont => exact False.elim hq
theorem pe_callOT {fe : Expr} {tf : TE} (c : CallO X.K C g) (F : FnR X.prog X.w X.K X.mg X.base CX k g sp) (hr : Room k X.A) (hx : ∀ σ, PassesAt CX X σ (E σ)) (hf : PE X fe tf) (ha : PA X (e :: es) t)
    (ht : eval (.Call fe (e :: es) [] pos) X.env = (do callWith pos (← eval fe X.env) [] (backTo pos (starEach (e :: es) X.env)) (backToKw pos (keywordEach [] X.env))) := by rfl)
    (he : starEach (e :: es) X.env = (false, eval e X.env) :: starEach es X.env := by rfl) (hpl : (backTo pos (starEach es X.env)).any (·.1) = false := by rfl) : PE X (.Call fe (e :: es) [] pos) (tCallOT C sp E tf t) := by
  refine ⟨fun pins s σ H Q I h => ?_⟩
  refine Call_ (thn (hf.run pins s σ H _ I h) fun u s1 ⟨y, H1, I1, ry, a, ey, q⟩ => ?_) ht
  subst ey
  obtain rfl : u = Value.ref a := ry
  refine callO_with (thn (ha.run pos pins s1 σ H1 _ I1 q) fun us s2 ⟨vs, H2, I2, r, hi, q2⟩ => ?_) he hpl
  obtain ⟨ox, od, J, hd⟩ := insC_at I2 (.inr hi)
  exact ⟨⟨C, ox, od, J, hd⟩, wpAny_call (PySem.W.kco_code I2.kIn J hd c.at_ c.fn c.fi (run_fnRS (us := .ref a :: us) (vs := .ref a :: vs) F hr (hx σ) I2 (.cons rfl r) q2))⟩
end
end My

set_option Elab.async false
set_option linter.all false
set_option maxRecDepth 100000
set_option maxHeartbeats 4000000
/-! ### methods with keywords, also within a try; a new instance with keywords within a try -/
namespace My
open PySem L2 StX PySem.Spec PyProof.Rows
def tMethN (C : Addr) (m : Str) (n mk : Nat) (sp : Sp) (gV : List V → List V → List V) (E : XK) (ta : TE) (t tk : TA) : TE := fun σ H Q => ta σ H fun x H1 => ∃ a dx fs, x = .ref a ∧ H1 a = some (.ins C dx fs) ∧ fs.lookup m = none ∧ t σ H1 fun vs H2 => tk σ H2 fun zs H3 => vs.length = n ∧ zs.length = mk ∧ sp (gV (.ref a :: vs) zs) H3 Q E
def tMethNT (C : Addr) (m : Str) (n mk : Nat) (sp : Sp) (gV : List V → List V → List V) (E : L2.St → XK) (ta : TE) (t tk : TA) : TE := fun σ H Q => ta σ H fun x H1 => ∃ a dx fs, x = .ref a ∧ H1 a = some (.ins C dx fs) ∧ fs.lookup m = none ∧ t σ H1 fun vs H2 => tk σ H2 fun zs H3 => vs.length = n ∧ zs.length = mk ∧ sp (gV (.ref a :: vs) zs) H3 Q (E σ)
def tMakeNT (C : Addr) (n m : Nat) (sp : Sp) (gV : List V → List V → List V) (E : L2.St → XK) (t tk : TA) : TE := fun σ H Q => t σ H fun vs H1 => tk σ H1 fun zs H2 => vs.length = n ∧ zs.length = m ∧ ∀ x dx, H2 x = none → H2 dx = none → dx ≠ x →
  sp (gV (.ref x :: vs) zs) (upd (upd H2 dx (.own x)) x (.ins C dx [])) (fun v H3 => v = .non ∧ Q (.ref x) H3) (E σ)
section
variable {X : Cx} {CX : CXT} {C f : Addr} {fd : FuncData} {ps ks : List Str} {sp : Sp} {k n : Nat} {o e : Expr} {es : List Expr} {kws : List Keyword} {ta : TE} {t tk : TA} {pos apos p : Pos} {m x : Str} {g : List Value → List Value → List Value} {gV : List V → List V → List V}
theorem run_fnNS {pins : List (Addr × Obj)} {σ : L2.St} {H : Hp} {s : Shared} {Q : VK} {us ws : List Value} {vs zs : List V} {E : XK} (F : FnOk X.prog X.w X.K X.mg X.base CX k f fd ps sp) (hr : Room k X.A) (hb : KBn X.K fd ps n ks g gV) (hx : PassesAt CX X σ E)
    (I : Inv X pins σ H s) (r : Vals vs us) (rz : Vals zs ws) (l1 : vs.length = n) (l2 : zs.length = ks.length) (h : sp (gV vs zs) H Q E) : wpAny (model X.prog X.w) X.A (call (.ref f) us (ks.zip ws)) (EP X pins σ Q) X.xe s := by
  have r2 := hb.rel r rz
  refine wpAny_call (codeAny_mono (F.run X.A X.stack s H ⟨us, ks.zip ws⟩ (g us ws) (gV vs zs) Q E hr I.env0 (hb.to s us ws I.kIn (r.length.symm.trans l1) (rz.length.symm.trans l2)) r2 h) fun r s' hq => ?_)
  cases r with
  | error e => exact hx pins H s e s' I hq
  | ok fl =>
    cases fl with
    | ret u => exact I.after hq
    | next => exact False.elim hq
    | brk => exact False.elim hq
    | cont => exact False.elim hq
theorem pe_methN {pl : Sem Bool} {E : XK} (c : Cls X.K C) (hm : Meth X.K C m f) (F : FnOk X.prog X.w X.K X.mg X.base CX k f fd ps sp) (hr : Room k X.A) (hb : KBn X.K fd ps (n + 1) ks g gV) (hx : Passes CX X E) (he : PE X o ta) (ha : PA X (e :: es) t) (hkw : PK X kws tk)
    (hall : (backToKw pos (keywordEach kws X.env)).all (·.1.isSome) = true := by rfl) (hks : (backToKw pos (keywordEach kws X.env)).filterMap (·.1) = ks := by rfl)
    (hst : starEach (e :: es) X.env = (false, eval e X.env) :: starEach es X.env := by rfl) (hpl : ((backTo pos (starEach (e :: es) X.env)).any (·.1) || (backToKw pos (keywordEach kws X.env)).any (·.1.isNone)) = false := by rfl)
    (ht : eval (.Call (.Attribute o m apos) (e :: es) kws pos) X.env = (do
      let ov ← eval o X.env
      standAt apos.atName
      let (f, first) ← holding [ov] (getMethod ov m pl)
      callWith pos f first (backTo pos (starEach (e :: es) X.env)) (backToKw pos (keywordEach kws X.env))) := by rfl) :
    PE X (.Call (.Attribute o m apos) (e :: es) kws pos) (tMethN C m n ks.length sp gV E ta t tk) := by
  refine ⟨fun pins s σ H Q I h => ?_⟩
  refine PySem.W.methodCall_KW (pl := pl) (thn (he.run pins s σ H _ I h) fun u s1 ⟨x, H1, I1, rx, a, dx, fs, ex, ea, l, q⟩ => ?_) ht
  subst ex
  obtain rfl : u = Value.ref a := rx
  refine getmeth_ok I1 ea c hm l ?_
  refine PySem.W.callWith_KW (first := [.ref a]) (h₀ := X.base) I.ok.mod.kin hm.kp hall (thn (ha.run pos pins s1 σ H1 _ I1 q) fun us s2 ⟨vs, H2, I2, r, q2⟩ => ?_) hpl hst
  refine thn (hkw.run pos pins s2 σ H2 _ I2 q2) fun ws s3 ⟨zs, H3, I3, rz, l1, l2, q3⟩ => ⟨I3.kIn, ?_⟩
  rw [hks]
  exact run_fnN (us := .ref a :: us) (vs := .ref a :: vs) F hr hb hx I3 (.cons rfl r) rz (by rw [List.length_cons, l1]) l2 q3
theorem pe_methNT {pl : Sem Bool} {E : L2.St → XK} (c : Cls X.K C) (hm : Meth X.K C m f) (F : FnOk X.prog X.w X.K X.mg X.base CX k f fd ps sp) (hr : Room k X.A) (hb : KBn X.K fd ps (n + 1) ks g gV) (hx : ∀ σ, PassesAt CX X σ (E σ)) (he : PE X o ta) (ha : PA X (e :: es) t) (hkw : PK X kws tk)
    (hall : (backToKw pos (keywordEach kws X.env)).all (·.1.isSome) = true := by rfl) (hks : (backToKw pos (keywordEach kws X.env)).filterMap (·.1) = ks := by rfl)
    (hst : starEach (e :: es) X.env = (false, eval e X.env) :: starEach es X.env := by rfl) (hpl : ((backTo pos (starEach (e :: es) X.env)).any (·.1) || (backToKw pos (keywordEach kws X.env)).any (·.1.isNone)) = false := by rfl)
    (ht : eval (.Call (.Attribute o m apos) (e :: es) kws pos) X.env = (do
      let ov ← eval o X.env
      standAt apos.atName
      let (f, first) ← holding [ov] (getMethod ov m pl)
      callWith pos f first (backTo pos (starEach (e :: es) X.env)) (backToKw pos (keywordEach kws X.env))) := by rfl) :
    PE X (.Call (.Attribute o m apos) (e :: es) kws pos) (tMethNT C m n ks.length sp gV E ta t tk) := by
  refine ⟨fun pins s σ H Q I h => ?_⟩
  refine PySem.W.methodCall_KW (pl := pl) (thn (he.run pins s σ H _ I h) fun u s1 ⟨x, H1, I1, rx, a, dx, fs, ex, ea, l, q⟩ => ?_) ht
  subst ex
  obtain rfl : u = Value.ref a := rx
  refine getmeth_ok I1 ea c hm l ?_
  refine PySem.W.callWith_KW (first := [.ref a]) (h₀ := X.base) I.ok.mod.kin hm.kp hall (thn (ha.run pos pins s1 σ H1 _ I1 q) fun us s2 ⟨vs, H2, I2, r, q2⟩ => ?_) hpl hst
  refine thn (hkw.run pos pins s2 σ H2 _ I2 q2) fun ws s3 ⟨zs, H3, I3, rz, l1, l2, q3⟩ => ⟨I3.kIn, ?_⟩
  rw [hks]
  exact run_fnNS (us := .ref a :: us) (vs := .ref a :: vs) F hr hb (hx σ) I3 (.cons rfl r) rz (by rw [List.length_cons, l1]) l2 q3
theorem pe_makeNT {E : L2.St → XK} (M : Mk X.K C f) (F : FnOk X.prog X.w X.K X.mg X.base CX k f fd ps sp) (hr : Room (k + 1) X.A) (hg : Gl X x) (hm : X.mg x = some (.ref C)) (hb : KBn X.K fd ps (n + 1) ks g gV) (hx : ∀ σ, PassesAt CX X σ (E σ)) (ha : PA X (e :: es) t) (hkw : PK X kws tk)
    (hall : (backToKw pos (keywordEach kws X.env)).all (·.1.isSome) = true := by rfl) (hks : (backToKw pos (keywordEach kws X.env)).filterMap (·.1) = ks := by rfl) (hdb : (x == ("__debug__" : Str)) = false := by decide)
    (he : starEach (e :: es) X.env = (false, eval e X.env) :: starEach es X.env := by rfl) (hpl : ((backTo pos (starEach (e :: es) X.env)).any (·.1) || (backToKw pos (keywordEach kws X.env)).any (·.1.isNone)) = false := by rfl) :
    PE X (.Call (.Name x p) (e :: es) kws pos) (tMakeNT C n ks.length sp gV E t tk) := by
  refine ⟨fun pins s σ H Q I h => wpAny_Call_Name_kw (ld_glob I hg hm ?_ hdb)⟩
  refine PySem.W.callWith_KW (h₀ := X.base) I.ok.mod.kin M.kp hall (thn (ha.run pos pins s σ H _ I h) fun us s1 ⟨vs, H1, I1, r, q⟩ => ?_) hpl he
  refine thn (hkw.run pos pins s1 σ H1 _ I1 q) fun ws s2 ⟨zs, H2, I2, rz, l1, l2, q2⟩ => ⟨I2.kIn, ?_⟩
  rw [hks]
  have g0 : H2 (s2.heap.objs.size + 1) = none := I2.hok.fresh (Nat.le_succ _)
  have g1 : H2 s2.heap.objs.size = none := I2.hok.fresh (Nat.le_refl _)
  have todo := q2 _ _ g0 g1 (Nat.ne_of_lt (Nat.lt_succ_self _))
  have J := Inv.made (C := C) I2
  have r1 : Vals (V.ref (s2.heap.objs.size + 1) :: vs) (Value.ref (s2.heap.objs.size + 1) :: us) := .cons rfl r
  have rr := hb.rel r1 rz
  have n1 : (Value.ref (s2.heap.objs.size + 1) :: us).length = n + 1 := by rw [List.length_cons, ← r.length, l1]
  refine wpAny_call (make_map (f := f) I2.kIn M.makes M.init (beq_iff_eq.mp M.fn) (codeAny_mono (F.run _ X.stack _ _ ⟨Value.ref (s2.heap.objs.size + 1) :: us, ks.zip ws⟩ (g (Value.ref (s2.heap.objs.size + 1) :: us) ws) _ _ (E σ) (hr.make C us (ks.zip ws)) (J.env0.make C us (ks.zip ws)) (hb.to _ (Value.ref (s2.heap.objs.size + 1) :: us) ws J.kIn n1 (rz.length.symm.trans l2)) rr todo) fun
    | .error er, s4, z => hx σ pins _ _ er s4 J z
    | .ok (.ret u), s4, z => ?_
    | .ok .next, _, z => False.elim z
    | .ok .brk, _, z => False.elim z
    | .ok .cont, _, z => False.elim z))
  obtain ⟨v, H3, J3, rv, rfl, z3⟩ := J.after z
  exact ⟨rv, .ref (s2.heap.objs.size + 1), H3, J3, rfl, z3⟩
end
end My

set_option Elab.async false
set_option linter.all false
set_option maxRecDepth 100000
set_option maxHeartbeats 4000000
/-! ### tuples that stand; rows of related things; small loops -/
namespace My
open PySem L2 NdefX
theorem len_app (x y : Str) : (x ++ y).length = x.length + y.length := Array.size_append
theorem take_snoc {α : Type} {l : List α} {i : Nat} {x : α} (h : l[i]? = some x) : l.take (i + 1) = l.take i ++ [x] := by
  rw [List.take_add_one, h]; rfl
/-- tuples stand as they did -/
def Tp (H H' : Hp) : Prop := ∀ a xs, H a = some (.tup xs) → H' a = some (.tup xs)
theorem Tp.refl (H : Hp) : Tp H H := fun _ _ h => h
theorem Tp.trans {H H1 H2 : Hp} (a : Tp H H1) (b : Tp H1 H2) : Tp H H2 := fun c xs h => b c xs (a c xs h)
theorem Kp.tps {H H' : Hp} (k : Kp [] H H') : Tp H H' := fun a xs h => k a _ not0 h
theorem Tp.putN {H H' : Hp} {l : Addr} {o : HO} (t : Tp H H') (h : ∀ xs, H' l ≠ some (.tup xs)) : Tp H (upd H' l o) := fun a xs e => by
  have z : a ≠ l := fun z => h xs (by rw [← z]; exact t a xs e)
  rw [upd_ne z]; exact t a xs e
theorem Tp.putL {H H' : Hp} {l : Addr} {o : HO} {ys : List V} (t : Tp H H') (h : H' l = some (.lst ys)) : Tp H (upd H' l o) := t.putN fun xs z => by rw [h] at z; cases z
theorem Tp.putI {H H' : Hp} {l C dx : Addr} {o : HO} {fs : List (Str × V)} (t : Tp H H') (h : H' l = some (.ins C dx fs)) : Tp H (upd H' l o) := t.putN fun xs z => by rw [h] at z; cases z
theorem Tp.new {H H' : Hp} {l : Addr} {o : HO} (t : Tp H H') (h : H' l = none) : Tp H (upd H' l o) := t.putN fun xs z => by rw [h] at z; cases z
theorem Kp.tpsI {H H' : Hp} {o C dx : Addr} {fs : List (Str × V)} (k : Kp [o] H H') (h : H o = some (.ins C dx fs)) : Tp H H' := fun a xs e => k a _ (not1 fun z => by rw [z, h] at e; cases e) e
theorem Kp.tpsL {H H' : Hp} {o : Addr} {ys : List V} (k : Kp [o] H H') (h : H o = some (.lst ys)) : Tp H H' := fun a xs e => k a _ (not1 fun z => by rw [z, h] at e; cases e) e
/-- one by one related -/
structure Rw {α : Type} (R : V → α → Prop) (us : List V) (gs : List α) : Prop where
  len : us.length = gs.length
  get : ∀ {i : Nat} {u : V}, us[i]? = some u → ∃ g, gs[i]? = some g ∧ R u g
theorem Rw.nil {α : Type} {R : V → α → Prop} : Rw R [] [] := ⟨rfl, fun e => nomatch e⟩
theorem Rw.mono {α : Type} {R R' : V → α → Prop} {us : List V} {gs : List α} (h : Rw R us gs) (f : ∀ u g, R u g → R' u g) : Rw R' us gs := ⟨h.len, fun e => by
  obtain ⟨g, a, b⟩ := h.get e
  exact ⟨g, a, f _ _ b⟩⟩
theorem Rw.at {α : Type} {R : V → α → Prop} {us : List V} {gs : List α} (h : Rw R us gs) {i : Nat} {g : α} (e : gs[i]? = some g) : ∃ u, us[i]? = some u ∧ R u g := by
  have il : i < us.length := by rw [h.len]; exact (List.getElem?_eq_some_iff.mp e).1
  obtain ⟨g', a, b⟩ := h.get (List.getElem?_eq_getElem il)
  rw [e] at a; cases a
  exact ⟨_, List.getElem?_eq_getElem il, b⟩
theorem Rw.cons {α : Type} {R : V → α → Prop} {us : List V} {gs : List α} {u : V} {g : α} (h : R u g) (t : Rw R us gs) : Rw R (u :: us) (g :: gs) := ⟨by simp [t.len], fun {i x} e => by
  cases i with
  | zero => cases e; exact ⟨g, rfl, h⟩
  | succ i => exact t.get (i := i) e⟩
theorem Rw.app {α : Type} {R : V → α → Prop} {us vs : List V} {gs hs : List α} (a : Rw R us gs) (b : Rw R vs hs) : Rw R (us ++ vs) (gs ++ hs) := ⟨by simp [a.len, b.len], fun {i x} e => by
  rcases Nat.lt_or_ge i us.length with z | z
  · rw [List.getElem?_append_left z] at e
    rw [List.getElem?_append_left (by rw [← a.len]; exact z)]
    exact a.get e
  · rw [List.getElem?_append_right z] at e
    rw [List.getElem?_append_right (by rw [← a.len]; exact z), ← a.len]
    exact b.get e⟩
theorem Rw.snoc {α : Type} {R : V → α → Prop} {us : List V} {gs : List α} {u : V} {g : α} (t : Rw R us gs) (h : R u g) : Rw R (us ++ [u]) (gs ++ [g]) := t.app (.cons h .nil)
theorem Rw.take {α : Type} {R : V → α → Prop} {us : List V} {gs : List α} (h : Rw R us gs) (n : Nat) : Rw R (us.take n) (gs.take n) := ⟨by simp [h.len], fun {i x} e => by
  rcases Nat.lt_or_ge i n with z | z
  · rw [List.getElem?_take_of_lt z] at e ⊢
    exact h.get e
  · rw [List.getElem?_take, if_neg (by omega)] at e; cases e⟩
theorem Rw.set {α : Type} {R : V → α → Prop} {us : List V} {gs : List α} {u : V} {g : α} (h : Rw R us gs) (n : Nat) (r : R u g) : Rw R (us.set n u) (gs.set n g) := ⟨by simp [h.len], fun {i x} e => by
  rcases Nat.decEq n i with z | z
  · rw [List.getElem?_set_ne z] at e ⊢
    exact h.get e
  · subst z
    have hl := (List.getElem?_eq_some_iff.mp e).1
    rw [List.length_set] at hl
    rw [List.getElem?_set_self hl] at e
    cases e
    exact ⟨g, by rw [List.getElem?_set_self (by rw [← h.len]; exact hl)], r⟩⟩
theorem Rw.tail {α : Type} {R : V → α → Prop} {u : V} {us : List V} {g : α} {gs : List α} (h : Rw R (u :: us) (g :: gs)) : R u g ∧ Rw R us gs := by
  obtain ⟨g', e, r⟩ := h.get (i := 0) rfl
  cases e
  exact ⟨r, by have := h.len; simpa using this, fun {i x} e => h.get (i := i + 1) e⟩
theorem Rw.isNil {α : Type} {R : V → α → Prop} {us : List V} (h : Rw R us ([] : List α)) : us = [] := List.eq_nil_of_length_eq_zero h.len
theorem Rw.ex {α : Type} {R : V → α → Prop} {us : List V} {g : α} {gs : List α} (h : Rw R us (g :: gs)) : ∃ u r, us = u :: r ∧ R u g ∧ Rw R r gs := by
  cases us with
  | nil => cases h.len
  | cons u r => exact ⟨u, r, rfl, h.tail⟩
theorem Rw.last {α : Type} {R : V → α → Prop} {us : List V} {gi : List α} {g : α} (h : Rw R us (gi ++ [g])) : ∃ ui u, us = ui ++ [u] ∧ Rw R ui gi ∧ R u g := by
  have e : (gi ++ [g])[gi.length]? = some g := by simp
  obtain ⟨u, eu, r⟩ := h.at e
  have hl : us.length = gi.length + 1 := by rw [h.len]; simp
  refine ⟨us.take gi.length, u, ?_, ?_, r⟩
  · rw [← take_snoc eu, List.take_of_length_le (by omega)]
  · have := h.take gi.length
    rw [List.take_left' rfl] at this
    exact this
theorem ixN_last {n : Nat} : ixN (n + 1) (-1) = some n := by
  unfold ixN
  rw [if_neg (by decide), if_pos (by omega)]
  congr 1
  omega
theorem seqIx {n : Nat} {i : Int} (h0 : 0 ≤ i) (h : i < n) : seqIndex? i n = some i.toNat := by
  have e : (if i < 0 then i + (n : Int) else i) = i := if_neg (by omega)
  unfold seqIndex?
  simp only [e, h0, h, decide_true, Bool.and_true, if_true]
theorem perm_erase : ∀ (l : List Int) (k : Nat) (h : k < l.length), (l[k] :: l.eraseIdx k).Perm l
  | [], k, h => absurd h (Nat.not_lt_zero k)
  | a :: r, 0, h => List.Perm.refl _
  | a :: r, k + 1, h => by
    have h' : k < r.length := by simpa using h
    show (r[k] :: a :: r.eraseIdx k).Perm (a :: r)
    exact (List.Perm.swap a r[k] _).trans ((perm_erase r k h').cons a)
/-- v is a tracked tuple of the ints xs -/
def TI (H : Hp) (v : V) (xs : List Int) : Prop := ∃ a, v = .ref a ∧ H a = some (.tup (xs.map V.int))
theorem TI.tp {H H' : Hp} {v : V} {xs : List Int} (h : TI H v xs) (t : Tp H H') : TI H' v xs := by
  obtain ⟨a, e, h⟩ := h
  exact ⟨a, e, t _ _ h⟩
theorem TI.kp {H H' : Hp} {v : V} {xs : List Int} (h : TI H v xs) (t : Kp [] H H') : TI H' v xs := h.tp t.tps
theorem TI.dp {K : PySem.W.Frag} {H : Hp} {v : V} {xs : List Int} (h : TI H v xs) : Dp K H v (.tuple (xs.map PyData.int)) := by
  obtain ⟨a, rfl, h⟩ := h
  refine .tup (sq_t h) ?_
  clear h
  induction xs with
  | nil => exact .nil
  | cons x r ih => exact .cons (.int x) ih
theorem map_get {α : Type} {f : Int → α} {xs : List Int} {i : Nat} {x : α} (h : (xs.map f)[i]? = some x) : ∃ k, xs[i]? = some k ∧ x = f k := by
  rw [List.getElem?_map] at h
  cases e : xs[i]? with
  | none => rw [e] at h; cases h
  | some k => rw [e] at h; cases h; exact ⟨k, rfl, rfl⟩
theorem rwInts (xs : List Int) : Rw (fun v x => v = V.int x) (xs.map V.int) xs := ⟨by simp, fun e => by
  obtain ⟨k, e, h⟩ := map_get e
  exact ⟨k, e, h⟩⟩
theorem rwInts_eq {us : List V} {xs : List Int} (h : Rw (fun v x => v = V.int x) us xs) : us = xs.map V.int := by
  apply List.ext_getElem?
  intro i
  cases e : us[i]? with
  | none =>
    rw [List.getElem?_eq_none_iff] at e
    rw [List.getElem?_eq_none (by rw [List.length_map, ← h.len]; exact e)]
  | some u =>
    obtain ⟨x, ex, rfl⟩ := h.get e
    rw [List.getElem?_map, ex]; rfl
theorem inV_int {z : Int} : ∀ {ks : List Int}, inV (.int z) (ks.map V.int) = decide (z ∈ ks)
  | [] => rfl
  | k :: ks => by
    have e : inV (.int z) ((k :: ks).map V.int) = ((k == z) || inV (.int z) (ks.map V.int)) := rfl
    rw [e, inV_int (ks := ks)]
    by_cases h : k = z
    · rw [h, beq_self_eq_true, Bool.true_or, decide_eq_true List.mem_cons_self]
    · rw [beq_eq_false_iff_ne.mpr h, Bool.false_or]
      refine decide_eq_decide.mpr ⟨fun q => List.mem_cons_of_mem _ q, fun q => ?_⟩
      rcases List.mem_cons.mp q with q | q
      · exact absurd q.symm h
      · exact q
theorem flat_ints (ys : List Int) : (ys.map V.int).all flatV = true := by
  rw [List.all_map]
  exact List.all_eq_true.mpr fun _ _ => rfl
/-- int(x) -/
def rInt1 : List V → Hp → VK → Prop := fun xs H Q => (∃ i, xs = [V.int i] ∧ Q (V.int i) H) ∨ ∃ k, xs = [V.bl k] ∧ Q (V.int (if k = true then 1 else 0)) H
theorem rInt1_int {i : Int} {H : Hp} {Q : VK} : rInt1 [V.int i] H Q = Q (V.int i) H := by
  unfold rInt1
  simp
theorem rInt1_bl {k : Bool} {H : Hp} {Q : VK} : rInt1 [V.bl k] H Q = Q (V.int (if k = true then 1 else 0)) H := by
  unfold rInt1
  simp
theorem forRg {ta : TA} {g : TG} {tb : TS} {D : Ends} {σ : L2.St} {H : Hp} (m : Int) (Pv : Nat → L2.St → Hp → Prop) (ht : ∀ R : List V → Hp → Prop, R [.int m] H → ta σ H R) (h1 : -(2 ^ 62) ≤ m) (h2 : m < 2 ^ 62) (h0 : Pv 0 σ H)
    (step : ∀ j σ H, j < m.toNat → Pv j σ H → g (.int (0 + j)) σ H fun σ2 H2 => tb { D with nx := Pv (j + 1), ct := Pv (j + 1), bk := D.nx } σ2 H2) (fin : ∀ σ H, Pv m.toNat σ H → D.nx σ H) : tFor (iRng1 ta) g tb D σ H :=
  ht _ ⟨m, rfl, h1, h2, for_range Pv h0 step fin⟩
/-- .. by a count -/
theorem forN {ta : TA} {g : TG} {tb : TS} {D : Ends} {σ : L2.St} {H : Hp} (m : Nat) (hm : m ≤ 100000) (Pv : Nat → L2.St → Hp → Prop) (ht : ∀ R : List V → Hp → Prop, R [.int (m : Nat)] H → ta σ H R) (h0 : Pv 0 σ H)
    (step : ∀ j σ H, j < m → Pv j σ H → g (.int (j : Nat)) σ H fun σ2 H2 => tb { D with nx := Pv (j + 1), ct := Pv (j + 1), bk := D.nx } σ2 H2) (fin : ∀ σ H, Pv m σ H → D.nx σ H) : tFor (iRng1 ta) g tb D σ H :=
  forRg (m : Nat) Pv ht (by omega) (by omega) h0 (fun j σ H hj p => by rw [Int.zero_add]; exact step j σ H (by omega) p) fun σ H p => fin σ H (by rw [Int.toNat_natCast] at p; exact p)
theorem lcRgN {ta : TA} {g : TG} {tt : TT} {te : TE} {vs : List Nat} {σ : L2.St} {H : Hp} {Q : VK} (m : Nat) (hm : m ≤ 100000) (Pv : Addr → Nat → Hp → Prop) (ht : ∀ R : List V → Hp → Prop, R [.int (m : Nat)] H → ta σ H R) (h0 : ∀ o, H o = none → Pv o 0 (upd H o (.lst [])))
    (step : ∀ o i H', H o = none → i < m → Pv o i H' → g (.int (i : Nat)) (wipe σ vs) H' fun σ2 H2 => wipe σ2 vs = wipe σ vs ∧ tt σ2 H2 fun b H3 => if b = true then te σ2 H3 fun y H4 => ∃ acc, H4 o = some (.lst acc) ∧ acc.length < sizeLine ∧ Pv o (i + 1) (upd H4 o (.lst (acc ++ [y]))) else Pv o (i + 1) H3)
    (fin : ∀ o H', H o = none → Pv o m H' → Q (.ref o) H') : tLc (iRng1 ta) g tt te vs σ H Q :=
  ht _ ⟨(m : Nat), rfl, by omega, by omega, fun o no => lc_range (Pv o) (h0 o no) (fun i H' hi p => by rw [Int.zero_add]; exact step o i H' no (by omega) p) fun H' p => fin o H' no (by rw [Int.toNat_natCast] at p; exact p)⟩
/-- [f(k) for k in range(m)], each item told by its number -/
theorem lcRgF {α : Type} {ta : TA} {j : Nat} {te : TE} {σ : L2.St} {H : Hp} {Q : VK} (m : Nat) (hm : m ≤ 100000) (R : Hp → V → α → Prop) (f : Nat → α) (mono : ∀ H H' v x, Tp H H' → R H v x → R H' v x) (hj : j < σ.length) (ht : ∀ R : List V → Hp → Prop, R [.int (m : Nat)] H → ta σ H R)
    (body : ∀ (i : Nat) H' (Q' : VK), i < m → Kp [] H H' → (∀ v H2, R H2 v (f i) → Kp [] H' H2 → Q' v H2) → te ((wipe σ [j]).set j (some (.int (i : Nat)))) H' Q')
    (fin : ∀ o us H', H o = none → H' o = some (.lst us) → Rw (R H') us ((List.range m).map f) → Kp [] H H' → Q (.ref o) H') : tLc (iRng1 ta) (gName j) tYes te [j] σ H Q :=
  lcRgN m hm (fun o i H' => ∃ us, H' o = some (.lst us) ∧ Rw (R H') us ((List.range i).map f) ∧ Kp [] H H') ht (fun o no => ⟨[], upd_same, .nil, Kp.new no⟩) (fun o i H' no hi ⟨us, ho, hr, k⟩ => by
    refine ⟨by simp [wipe], ?_⟩
    simp only [tYes, if_true]
    refine body i H' _ hi k fun v H2 hv k2 => ?_
    have ho2 := k2 _ _ not0 ho
    have tp2 : Tp H' (upd H2 o (.lst (us ++ [v]))) := k2.tps.putL ho2
    have tp3 : Tp H2 (upd H2 o (.lst (us ++ [v]))) := (Tp.refl H2).putL ho2
    refine ⟨us, ho2, smallL (by have := hr.len; rw [this, List.length_map, List.length_range]; omega), us ++ [v], upd_same, ?_, (k.trans k2).wr no⟩
    rw [List.range_succ, List.map_append]
    exact (hr.mono fun u g r => mono _ _ _ _ tp2 r).snoc (mono _ _ _ _ tp3 hv)) fun o H' no ⟨us, ho, hr, k⟩ => fin o us H' no ho hr k
/-- [x for x in t if b(x)], t a tuple of ints -/
theorem lcFilt {K : PySem.W.Frag} {tv : TE} {j : Nat} {tt : TT} {te : TE} {σ : L2.St} {H : Hp} {Q : VK} {a : Addr} {xs : List Int} (b : Int → Bool) (hv : ∀ R : VK, R (.ref a) H → tv σ H R) (ha : SqT K H a (xs.map V.int)) (hl : xs.length ≤ 1000) (hj : j < σ.length)
    (test : ∀ x H' (R : Bool → Hp → Prop), x ∈ xs → Kp [] H H' → R (b x) H' → tt ((wipe σ [j]).set j (some (.int x))) H' R)
    (elt : ∀ x H' (R : VK), R (.int x) H' → te ((wipe σ [j]).set j (some (.int x))) H' R)
    (fin : ∀ D H', H D = none → H' D = some (.lst ((xs.filter b).map V.int)) → Kp [] H H' → Q (.ref D) H') :
    tLc (iTup K tv) (gName j) tt te [j] σ H Q := by
  unfold tLc iTup
  refine hv _ ⟨a, rfl, ⟨_, ha⟩, fun D nD => ?_⟩
  refine lc_tup (xs := xs.map V.int) (fun i H' => H' D = some (.lst (((xs.take i).filter b).map V.int)) ∧ Kp [] H H') ⟨upd_same, Kp.new nD⟩ (fun i H' _ h => h.2.tp not0 ha) (fun i x H' hx h => ?_) fun H' h => ?_
  · obtain ⟨k, ek, rfl⟩ := map_get hx
    obtain ⟨hD, kp⟩ := h
    refine ⟨by simp [wipe], ?_⟩
    refine test k H' _ (List.mem_of_getElem? ek) kp ?_
    cases hb : b k with
    | true =>
      rw [if_pos rfl]
      refine elt k H' _ ⟨_, hD, ?_, ?_, kp.wr nD⟩
      · rw [List.length_map]
        have := List.length_filter_le b (xs.take i)
        rw [List.length_take] at this
        exact smallL (by omega)
      · rw [upd_same, take_snoc ek, List.filter_append]
        simp [hb]
    | false =>
      rw [if_neg (by simp)]
      refine ⟨?_, kp⟩
      rw [take_snoc ek, List.filter_append]
      simpa [hb] using hD
  · obtain ⟨hD, kp⟩ := h
    rw [List.length_map, List.take_length] at hD
    exact fin D H' nD hD kp
/-- [f(x) for x in t], t a tuple -/
theorem lcMapT {α β : Type} {K : PySem.W.Frag} {tv : TE} {j : Nat} {te : TE} {σ : L2.St} {H : Hp} {Q : VK} {a : Addr} {us : List V} {gs : List α} {R : Hp → V → α → Prop} (mono : ∀ H H' v x, Tp H H' → R H v x → R H' v x) (f : α → β) (put : β → V) (hv : ∀ R : VK, R (.ref a) H → tv σ H R) (ha : SqT K H a us) (hr : Rw (R H) us gs) (hl : gs.length ≤ 1000) (hj : j < σ.length)
    (elt : ∀ v x H' (Q' : VK), x ∈ gs → R H' v x → Kp [] H H' → (∀ H2, Kp [] H' H2 → Q' (put (f x)) H2) → te ((wipe σ [j]).set j (some v)) H' Q')
    (fin : ∀ D H', H D = none → H' D = some (.lst (gs.map fun x => put (f x))) → Kp [] H H' → Q (.ref D) H') :
    tLc (iTup K tv) (gName j) tYes te [j] σ H Q := by
  unfold tLc iTup
  refine hv _ ⟨a, rfl, ⟨_, ha⟩, fun D nD => ?_⟩
  refine lc_tup (xs := us) (fun i H' => H' D = some (.lst ((gs.take i).map fun x => put (f x))) ∧ Kp [] H H') ⟨upd_same, Kp.new nD⟩ (fun i H' _ h => h.2.tp not0 ha) (fun i x H' hx h => ?_) fun H' h => ?_
  · obtain ⟨g, eg, hg⟩ := hr.get hx
    obtain ⟨hD, kp⟩ := h
    refine ⟨by simp [wipe], ?_⟩
    simp only [tYes, if_true]
    refine elt x g H' _ (List.mem_of_getElem? eg) (mono _ _ _ _ kp.tps hg) kp fun H2 k2 => ?_
    refine ⟨_, k2 _ _ not0 hD, ?_, ?_, (kp.trans k2).wr nD⟩
    · rw [List.length_map, List.length_take]; exact smallL (by omega)
    · rw [upd_same, take_snoc eg, List.map_append]; rfl
  · obtain ⟨hD, kp⟩ := h
    rw [hr.len, List.take_length] at hD
    exact fin D H' nD hD kp
/-- [f(x) for x in l], l a list -/
theorem lcMapL {α β : Type} {K : PySem.W.Frag} {tv : TE} {j : Nat} {te : TE} {σ : L2.St} {H : Hp} {Q : VK} {a : Addr} {us : List V} {gs : List α} {R : Hp → V → α → Prop} (mono : ∀ H H' v x, Tp H H' → R H v x → R H' v x) (f : α → β) (put : β → V) (hv : ∀ R : VK, R (.ref a) H → tv σ H R) (ha : SqL K H a us) (hr : Rw (R H) us gs) (hl : gs.length ≤ 1000) (hj : j < σ.length)
    (elt : ∀ v x H' (Q' : VK), x ∈ gs → R H' v x → Kp [] H H' → (∀ H2, Kp [] H' H2 → Q' (put (f x)) H2) → te ((wipe σ [j]).set j (some v)) H' Q')
    (fin : ∀ D H', H D = none → H' D = some (.lst (gs.map fun x => put (f x))) → Kp [] H H' → Q (.ref D) H') :
    tLc (iList K tv) (gName j) tYes te [j] σ H Q := by
  unfold tLc iList
  refine hv _ ⟨a, rfl, ⟨_, ha⟩, fun D nD => ?_⟩
  refine lc_list (xs := us) (fun i H' => H' D = some (.lst ((gs.take i).map fun x => put (f x))) ∧ Kp [] H H') ⟨upd_same, Kp.new nD⟩ (fun i H' _ h => h.2.ls not0 ha) (fun i x H' hx h => ?_) fun H' h => ?_
  · obtain ⟨g, eg, hg⟩ := hr.get hx
    obtain ⟨hD, kp⟩ := h
    refine ⟨by simp [wipe], ?_⟩
    simp only [tYes, if_true]
    refine elt x g H' _ (List.mem_of_getElem? eg) (mono _ _ _ _ kp.tps hg) kp fun H2 k2 => ?_
    refine ⟨_, k2 _ _ not0 hD, ?_, ?_, (kp.trans k2).wr nD⟩
    · rw [List.length_map, List.length_take]; exact smallL (by omega)
    · rw [upd_same, take_snoc eg, List.map_append]; rfl
  · obtain ⟨hD, kp⟩ := h
    rw [hr.len, List.take_length] at hD
    exact fin D H' nD hD kp
/-- [f(x) for x in t], t a list; the results related -/
theorem lcRelL {α β : Type} {K : PySem.W.Frag} {tv : TE} {j : Nat} {te : TE} {σ : L2.St} {H : Hp} {Q : VK} {a : Addr} {us : List V} {gs : List α} {R : Hp → V → α → Prop} {R2 : Hp → V → β → Prop} (mono : ∀ H H' v x, Tp H H' → R H v x → R H' v x) (mono2 : ∀ H H' v x, Tp H H' → R2 H v x → R2 H' v x) (f : α → β) (hv : ∀ R : VK, R (.ref a) H → tv σ H R) (ha : SqL K H a us) (hr : Rw (R H) us gs) (hl : gs.length ≤ 1000) (hj : j < σ.length)
    (elt : ∀ v x H' (Q' : VK), x ∈ gs → R H' v x → Kp [] H H' → (∀ v' H2, R2 H2 v' (f x) → Kp [] H' H2 → Q' v' H2) → te ((wipe σ [j]).set j (some v)) H' Q')
    (fin : ∀ D ws H', H D = none → H' D = some (.lst ws) → Rw (R2 H') ws (gs.map f) → Kp [] H H' → Q (.ref D) H') :
    tLc (iList K tv) (gName j) tYes te [j] σ H Q := by
  unfold tLc iList
  refine hv _ ⟨a, rfl, ⟨_, ha⟩, fun D nD => ?_⟩
  refine lc_list (xs := us) (fun i H' => ∃ ws, H' D = some (.lst ws) ∧ Rw (R2 H') ws ((gs.take i).map f) ∧ Kp [] H H') ⟨[], upd_same, .nil, Kp.new nD⟩ (fun i H' _ h => by obtain ⟨_, _, _, k⟩ := h; exact k.ls not0 ha) (fun i x H' hx h => ?_) fun H' h => ?_
  · obtain ⟨g, eg, hg⟩ := hr.get hx
    obtain ⟨ws, hD, hw, kp⟩ := h
    refine ⟨by simp [wipe], ?_⟩
    simp only [tYes, if_true]
    refine elt x g H' _ (List.mem_of_getElem? eg) (mono _ _ _ _ kp.tps hg) kp fun v' H2 h2 k2 => ?_
    have hD2 := k2 _ _ not0 hD
    refine ⟨_, hD2, ?_, ws ++ [v'], upd_same, ?_, (kp.trans k2).wr nD⟩
    · rw [hw.len, List.length_map, List.length_take]; exact smallL (by omega)
    · rw [take_snoc eg, List.map_append]
      exact (hw.mono fun u g r => mono2 _ _ _ _ (k2.tps.putL hD2) r).snoc (mono2 _ _ _ _ ((Tp.refl H2).putL hD2) h2)
  · obtain ⟨ws, hD, hw, kp⟩ := h
    rw [hr.len, List.take_length] at hw
    exact fin D ws H' nD hD hw kp
theorem lc_src {K : PySem.W.Frag} {tv : TE} {g : TG} {tt : TT} {te : TE} {vs : List Nat} {σ : L2.St} {H : Hp} {Q : VK} (h : tv σ H fun v H1 => tLc (iList K (tC v)) g tt te vs σ H1 Q) : tLc (iList K tv) g tt te vs σ H Q := h
theorem lc_srcT {K : PySem.W.Frag} {tv : TE} {g : TG} {tt : TT} {te : TE} {vs : List Nat} {σ : L2.St} {H : Hp} {Q : VK} (h : tv σ H fun v H1 => tLc (iTup K (tC v)) g tt te vs σ H1 Q) : tLc (iTup K tv) g tt te vs σ H Q := h
def rTupOf (K : PySem.W.Frag) : List V → Hp → VK → Prop := fun xs H Q => ∃ p ys, xs = [V.ref p] ∧ ((SqL K H p ys ∧ ∀ l, H l = none → Q (.ref l) (upd H l (.tup ys))) ∨ (SqT K H p ys ∧ Q (.ref p) H))
theorem TI.make {H : Hp} {s : Addr} {xs : List Int} : TI (upd H s (.tup (xs.map V.int))) (.ref s) xs := ⟨s, rfl, upd_same⟩
/-- [k for k in range(m) if b(k)] -/
theorem lcRgFilt {ta : TA} {j : Nat} {tt : TT} {te : TE} {σ : L2.St} {H : Hp} {Q : VK} (m : Nat) (hm : m ≤ 1000) (b : Int → Bool) (hj : j < σ.length) (ht : ∀ R : List V → Hp → Prop, R [.int (m : Nat)] H → ta σ H R)
    (test : ∀ (i : Nat) H' (R : Bool → Hp → Prop), i < m → Kp [] H H' → (∀ H2, Kp [] H' H2 → R (b i) H2) → tt ((wipe σ [j]).set j (some (.int (i : Nat)))) H' R)
    (elt : ∀ (i : Nat) H' (R : VK), R (.int (i : Nat)) H' → te ((wipe σ [j]).set j (some (.int (i : Nat)))) H' R)
    (fin : ∀ D H', H D = none → H' D = some (.lst ((((List.range m).map fun i => ((i : Nat) : Int)).filter b).map V.int)) → Kp [] H H' → Q (.ref D) H') :
    tLc (iRng1 ta) (gName j) tt te [j] σ H Q :=
  lcRgN m (by omega) (fun o i H' => H' o = some (.lst ((((List.range i).map fun i => ((i : Nat) : Int)).filter b).map V.int)) ∧ Kp [] H H') ht (fun o no => ⟨upd_same, Kp.new no⟩) (fun o i H' no hi ⟨hD, kp⟩ => by
    refine ⟨by simp [wipe], ?_⟩
    refine test i H' _ hi kp fun H2 k2 => ?_
    have hD2 := k2 _ _ not0 hD
    cases hb : b i with
    | true =>
      rw [if_pos rfl]
      refine elt i H2 _ ⟨_, hD2, ?_, ?_, (kp.trans k2).wr no⟩
      · rw [List.length_map]
        have := List.length_filter_le b ((List.range i).map fun i => ((i : Nat) : Int))
        rw [List.length_map, List.length_range] at this
        exact smallL (by omega)
      · rw [upd_same, List.range_succ, List.map_append, List.filter_append]
        simp [hb]
    | false =>
      rw [if_neg (by simp)]
      refine ⟨?_, kp.trans k2⟩
      rw [List.range_succ, List.map_append, List.filter_append]
      simpa [hb] using hD2) fun o H' no ⟨hD, kp⟩ => fin o H' no hD kp
theorem forT_src {K : PySem.W.Frag} {te : TE} {g : TG} {tb : TS} {D : Ends} {σ : L2.St} {H : Hp} (h : te σ H fun v H1 => tFor (iTup K (tC v)) g tb D σ H1) : tFor (iTup K te) g tb D σ H := h
theorem forTC {K : PySem.W.Frag} {g : TG} {tb : TS} {D : Ends} {σ : L2.St} {H : Hp} {a : Addr} {xs : List V} (Pv : Nat → L2.St → Hp → Prop) (hS : SqT K H a xs) (h0 : Pv 0 σ H) (hl : ∀ j σ H, j ≤ xs.length → Pv j σ H → SqT K H a xs)
    (hs : ∀ j x σ H, xs[j]? = some x → Pv j σ H → g x σ H fun σ2 H2 => tb { D with nx := Pv (j + 1), ct := Pv (j + 1), bk := D.nx } σ2 H2) (hd : ∀ σ H, Pv xs.length σ H → D.nx σ H) : tFor (iTup K (tC (.ref a))) g tb D σ H :=
  ⟨a, rfl, ⟨xs, hS⟩, for_tup Pv h0 hl hs hd⟩
theorem forN2 {ta : TA} {g : TG} {tb : TS} {D : Ends} {σ : L2.St} {H : Hp} (lo m : Nat) (hlo : lo ≤ 1000) (hm : m ≤ 100000) (Pv : Nat → L2.St → Hp → Prop) (ht : ∀ R : List V → Hp → Prop, (∀ H1, Kp [] H H1 → R [.int (lo : Nat), .int (m : Nat)] H1) → ta σ H R) (h0 : ∀ H1, Kp [] H H1 → Pv 0 σ H1)
    (step : ∀ j σ H, lo + j < m → Pv j σ H → g (.int ((lo + j : Nat) : Int)) σ H fun σ2 H2 => tb { D with nx := Pv (j + 1), ct := Pv (j + 1), bk := D.nx } σ2 H2) (fin : ∀ σ H, Pv (m - lo) σ H → D.nx σ H) : tFor (iRng2 ta) g tb D σ H :=
  ht _ fun H1 k1 => ⟨(lo : Nat), (m : Nat), rfl, ⟨by omega, by omega, by omega, by omega⟩, for_range (lo := (lo : Nat)) (n := ((m : Int) - (lo : Nat)).toNat) Pv (h0 H1 k1) (fun j σ H hj p => by
    have e : ((lo : Nat) : Int) + (j : Nat) = ((lo + j : Nat) : Int) := by omega
    rw [e]
    exact step j σ H (by omega) p) fun σ H p => fin σ H (by
      have e : ((m : Int) - (lo : Nat)).toNat = m - lo := by omega
      rw [e] at p; exact p)⟩
/-- [e for k in range(m)], of each item a fact -/
theorem lcRgE {α : Type} {ta : TA} {j : Nat} {te : TE} {σ : L2.St} {H : Hp} {Q : VK} (m : Nat) (hm : m ≤ 100000) (R : Hp → V → α → Prop) (G : α → Prop) (mono : ∀ H H' v x, Tp H H' → R H v x → R H' v x) (hj : j < σ.length) (ht : ∀ R : List V → Hp → Prop, R [.int (m : Nat)] H → ta σ H R)
    (body : ∀ (i : Nat) H' (Q' : VK), i < m → Kp [] H H' → (∀ v g H2, R H2 v g → G g → Kp [] H' H2 → Q' v H2) → te ((wipe σ [j]).set j (some (.int (i : Nat)))) H' Q')
    (fin : ∀ o us gs H', H o = none → H' o = some (.lst us) → Rw (R H') us gs → gs.length = m → (∀ g ∈ gs, G g) → Kp [] H H' → Q (.ref o) H') : tLc (iRng1 ta) (gName j) tYes te [j] σ H Q :=
  lcRgN m hm (fun o i H' => ∃ us gs, H' o = some (.lst us) ∧ Rw (R H') us gs ∧ gs.length = i ∧ (∀ g ∈ gs, G g) ∧ Kp [] H H') ht (fun o no => ⟨[], [], upd_same, .nil, rfl, (fun g h => nomatch h), Kp.new no⟩) (fun o i H' no hi ⟨us, gs, ho, hr, gl, hg, k⟩ => by
    refine ⟨by simp [wipe], ?_⟩
    simp only [tYes, if_true]
    refine body i H' _ hi k fun v g H2 hv gg k2 => ?_
    have ho2 := k2 _ _ not0 ho
    refine ⟨us, ho2, smallL (by have := hr.len; omega), us ++ [v], gs ++ [g], upd_same, (hr.mono fun u g r => mono _ _ _ _ (k2.tps.putL ho2) r).snoc (mono _ _ _ _ ((Tp.refl H2).putL ho2) hv), by simp [gl], fun x hx => ?_, (k.trans k2).wr no⟩
    rcases List.mem_append.mp hx with hx | hx
    · exact hg x hx
    · rw [List.mem_singleton.mp hx]; exact gg) fun o H' no ⟨us, gs, ho, hr, gl, hg, k⟩ => fin o us gs H' no ho hr gl hg k
/-- a walk of a tuple that stands -/
theorem it_tup {K : PySem.W.Frag} {a : Addr} {xs : List V} {W0 : Hp → Prop} (Pv : Nat → Hp → Prop) {H : Hp} (h0 : Pv 0 H) {Nx : Hp → Prop} {Body : V → Hp → (Hp → Prop) → Prop} (hl : ∀ i H', Pv i H' → SqT K H' a xs)
    (step : ∀ i x H', xs[i]? = some x → Pv i H' → Body x H' (Pv (i + 1))) (fin : ∀ H', Pv xs.length H' → Nx H') : ∃ W : Nat → Nat → Hp → Prop, (∃ k, W 0 k H) ∧ ∀ i k H, W i k H →
  ((Itt K a).stop i H ∧ Nx H) ∨ ((Itt K a).go i H ∧ ∃ N2 : Hp → Prop, (∀ H', N2 H' → ∃ m', m' < k ∧ W (i + 1) m' H') ∧ ∀ x H', (Itt K a).yld i H x H' → Body x H' N2) := by
  refine ⟨fun i k H => k = xs.length - i ∧ i ≤ xs.length ∧ Pv i H, ⟨xs.length, rfl, Nat.zero_le _, h0⟩, ?_⟩
  rintro i k H ⟨rfl, hi, p⟩
  have q := hl i H p
  by_cases lt : i < xs.length
  · refine .inr ⟨⟨xs, xs[i], q, by simp [lt]⟩, Pv (i + 1), fun H' p' => ⟨xs.length - (i + 1), by omega, rfl, lt, p'⟩, fun x H' y => ?_⟩
    obtain ⟨e, y⟩ := y
    subst e
    exact step i x _ (y xs q) p
  · have e : i = xs.length := by omega
    subst e
    exact .inl ⟨⟨xs, q, Nat.le_refl _⟩, fin H p⟩
theorem flat_take {gs : List (List Int)} {i : Nat} {g : List Int} (e : gs[i]? = some g) : (gs.take (i + 1)).flatten = (gs.take i).flatten ++ g := by
  rw [take_snoc e, List.flatten_append, List.flatten_singleton]
theorem flat_le (gs : List (List Int)) (i : Nat) : (gs.take i).flatten.length ≤ gs.flatten.length := by
  have e : (gs.take i ++ gs.drop i).flatten.length = gs.flatten.length := by rw [List.take_append_drop]
  rw [List.flatten_append, List.length_append] at e
  omega
/-- [x for g in t for x in g], t a tuple of tuples of ints -/
theorem lcFlat {K : PySem.W.Frag} {tv : TE} {p q : Nat} {σ : L2.St} {H : Hp} {Q : VK} {a : Addr} {us : List V} {gs : List (List Int)} (hv : ∀ R : VK, R (.ref a) H → tv σ H R) (ha : SqT K H a us) (hr : Rw (TI H) us gs) (hl : gs.flatten.length ≤ 1000) (hp : p < σ.length) (hq : q < σ.length) (pq : p ≠ q)
    (fin : ∀ D H', H D = none → H' D = some (.lst (gs.flatten.map V.int)) → Kp [] H H' → Q (.ref D) H') :
    tLc2 (iTup K tv) (gName p) tYes (iTup K (tVar p)) (gName q) tYes (tVar q) [p, q] [q] σ H Q := by
  unfold tLc2 iTup
  refine hv _ ⟨a, rfl, ⟨_, ha⟩, fun D nD => ?_⟩
  have w1 : ∀ x, wipe ((wipe σ [p, q]).set p (some x)) [p, q] = wipe σ [p, q] := fun x => by
    apply List.ext_getElem?
    intro n
    simp only [wipe, List.getElem?_set, List.length_set]
    by_cases h1 : p = n <;> by_cases h2 : q = n <;> simp [h1, h2]
  refine it_tup (K := K) (a := a) (xs := us) (W0 := fun _ => True) (Body := fun x H' N => gName p x (wipe σ [p, q]) H' fun σ2 H2 => wipe σ2 [p, q] = wipe σ [p, q] ∧ tYes σ2 H2 fun b H3 => if b = true then tLcIn (iTup K (tVar p)) (gName q) tYes (tVar q) [q] D σ2 H3 N else N H3)
    (fun i H' => H' D = some (.lst ((gs.take i).flatten.map V.int)) ∧ Kp [] H H') ⟨upd_same, Kp.new nD⟩ (fun i H' h => h.2.tp not0 ha) (fun i x H' hx h => ?_) fun H' h => ?_
  · obtain ⟨g, eg, b, rfl, hb⟩ := hr.get hx
    obtain ⟨hD, kp⟩ := h
    refine ⟨w1 _, ?_⟩
    simp only [tYes, if_true]
    have hb' := kp _ _ not0 hb
    refine ⟨.ref b, ?_, b, rfl, ⟨_, sq_t hb'⟩, ?_⟩
    · show ((wipe σ [p, q]).set p (some (.ref b)))[p]? = _
      rw [List.getElem?_set_self (by rw [wipe_length]; exact hp)]
    have fl := flat_le gs (i + 1)
    rw [flat_take eg, List.length_append] at fl
    refine it_tup (K := K) (a := b) (xs := g.map V.int) (W0 := fun _ => True) (Body := fun x H' N => gName q x (wipe ((wipe σ [p, q]).set p (some (.ref b))) [q]) H' fun σ2 H2 => wipe σ2 [q] = wipe ((wipe σ [p, q]).set p (some (.ref b))) [q] ∧ tYes σ2 H2 fun b H3 => if b = true then tVar q σ2 H3 fun y H4 => ∃ acc, H4 D = some (.lst acc) ∧ acc.length < sizeLine ∧ N (upd H4 D (.lst (acc ++ [y]))) else N H3)
      (fun j H2 => H2 D = some (.lst (((gs.take i).flatten ++ g.take j).map V.int)) ∧ Kp [] H H2) ⟨by rw [List.take_zero, List.append_nil]; exact hD, kp⟩ (fun j H2 h => sq_t (h.2 _ _ not0 (by exact hb))) (fun j x H2 hx2 h => ?_) fun H2 h => ?_
    · obtain ⟨k, ek, rfl⟩ := map_get hx2
      obtain ⟨hD2, kp2⟩ := h
      refine ⟨by simp [wipe], ?_⟩
      simp only [if_true]
      refine ⟨.int k, ?_, _, hD2, ?_, ?_, kp2.wr nD⟩
      · rw [List.getElem?_set_self (by rw [wipe_length, List.length_set, wipe_length]; exact hq)]
      · rw [List.length_map, List.length_append, List.length_take]; exact smallL (by omega)
      · rw [upd_same, take_snoc ek]; simp
    · obtain ⟨hD2, kp2⟩ := h
      rw [List.length_map, List.take_length] at hD2
      exact ⟨by rw [flat_take eg]; exact hD2, kp2⟩
  · obtain ⟨hD, kp⟩ := h
    rw [hr.len, List.take_length] at hD
    exact fin D H' nD hD kp
/-- what stands of an own error with one field, and its __init__ -/
structure Er1 (P : Program) (w : World) (K : PySem.W.Frag) (mg : Str → Option Value) (base : Heap) (nm fld : Str) (C f : Addr) (fd : FuncData) (ps : List Str) (Pf : V → Prop) : Prop where
  k : mg nm = some (.ref C)
  ox : OexC K C
  ic : PySem.W.findIn K (.ref C) "__init__" = some (some (.ref f))
  ti : PySem.W.typeIn K (.ref f) = some (.type "function")
  b : Binds K fd ps []
  G : FnOk P w K mg base (L2.CX P w) 1 f fd ps (spErr1 C fld Pf)
theorem find_first {α : Type} {f : α → Bool} {l : List α} {i : Nat} {x : α} (e : l[i]? = some x) (hx : f x = true) (h : ∀ j y, j < i → l[j]? = some y → f y = false) : l.find? f = some x := by
  induction l generalizing i with
  | nil => cases e
  | cons a r ih =>
    cases i with
    | zero => cases e; rw [List.find?_cons, hx]
    | succ i =>
      rw [List.find?_cons, h 0 a (by omega) rfl]
      exact ih e fun j y hj ey => h (j + 1) y (by omega) ey
end My

set_option Elab.async false
set_option linter.all false
set_option maxRecDepth 100000
set_option maxHeartbeats 4000000
/-! ### displays of data of which only the size is wanted -/
namespace My
open PySem L2
/-- the bound of a level: at most three items in each -/
def bd : Nat → Nat
  | 0 => 20
  | k + 1 => (bd k + 1) * 3
abbrev Lv (k : Nat) (d : PyData) : Prop := Sh (k + 1) (bd k) d
theorem bd_le (k : Nat) : 20 ≤ bd k := by
  induction k with
  | zero => exact Nat.le_refl _
  | succ k ih => show 20 ≤ (bd k + 1) * 3; omega
theorem bd_mono {k j : Nat} (h : k ≤ j) : bd k ≤ bd j := by
  induction h with
  | refl => exact Nat.le_refl _
  | step _ ih => exact Nat.le_trans ih (by show bd _ ≤ (bd _ + 1) * 3; omega)
theorem Lv.mono {k j : Nat} {d : PyData} (h : Lv k d) (e : k ≤ j) : Lv j d := Sh.mono h (by omega) (bd_mono e)
/-- a text of at most n letters -/
def StB (n : Nat) (z : Str) : Prop := PyData.canLay0 (.str z) = true ∧ z.length ≤ n
theorem StB.lv {n k : Nat} {z : Str} (h : StB n z) (hn : n ≤ 20) : Lv k (.str z) := (sh_str h.1 (Nat.le_trans h.2 hn)).mono (by omega) (bd_le k)
theorem canLay_iff {z : Str} : PyData.canLay0 (.str z) = true ↔ ∀ c ∈ z.cps.toList, c < 0x110000 := by
  unfold PyData.canLay0 PyData.strOk
  rw [← Array.all_toList, List.all_eq_true]
  constructor
  · intro h c hc
    simpa using h c hc
  · intro h c hc
    simpa using h c hc
theorem StB.app {n m : Nat} {a b : Str} (ha : StB n a) (hb : StB m b) : StB (n + m) (a ++ b) := by
  refine ⟨canLay_iff.mpr fun c hc => ?_, ?_⟩
  · have e : (a ++ b).cps.toList = a.cps.toList ++ b.cps.toList := Array.toList_append
    rw [e] at hc
    rcases List.mem_append.mp hc with h | h
    · exact canLay_iff.mp ha.1 c h
    · exact canLay_iff.mp hb.1 c h
  · have e : (a ++ b).length = a.length + b.length := Array.size_append
    rw [e]
    exact Nat.add_le_add ha.2 hb.2
theorem StB.cut {n : Nat} {z : Str} (h : StB n z) (i j : Option Int) : StB n (cutS z i j) := by
  refine ⟨canLay_iff.mpr fun c hc => ?_, ?_⟩
  · unfold cutS at hc
    exact canLay_iff.mp h.1 c (List.mem_of_mem_drop (List.mem_of_mem_take (by simpa using hc)))
  · unfold cutS
    show (List.toArray _).size ≤ n
    rw [List.size_toArray]
    have e : z.cps.toList.length = z.length := Array.length_toList
    have := h.2
    rw [List.length_take, List.length_drop]
    omega
/-- what of H is new since B -/
def nw (B H : Hp) : Hp := fun a => if B a = none then H a else none
theorem nw_kp {B H H' : Hp} (k : Kp [] H H') : Kp [] (nw B H) (nw B H') := fun b ob h e => by
  unfold nw at e ⊢
  by_cases z : B b = none
  · rw [if_pos z] at e ⊢
    exact k b ob h e
  · rw [if_neg z] at e; cases e
theorem nw_to {B H : Hp} : Kp [] (nw B H) H := fun b ob h e => by
  unfold nw at e
  by_cases z : B b = none
  · rw [if_pos z] at e; exact e
  · rw [if_neg z] at e; cases e
theorem nw_new {B H : Hp} {p : Addr} {o : HO} (kb : Kp [] B H) (np : H p = none) : nw B (upd H p o) p = some o := by
  unfold nw
  rw [if_pos (kb.free0 np), upd_same]
/-- .. stands where an old one is written -/
theorem nw_wr {B H : Hp} {p : Addr} {o x : HO} (hp : B p = some x) : Kp [] (nw B H) (upd H p o) := fun b ob h e => by
  have nb : b ≠ p := fun z => by
    subst z
    unfold nw at e
    rw [if_neg (by rw [hp]; exact fun z => nomatch z)] at e
    cases e
  rw [upd_ne nb]
  exact nw_to b ob h e
/-- te gives a value of some data of level k, new since B -/
def DX (te : TE) (σ : L2.St) (B H0 : Hp) (k : Nat) : Prop := ∀ H1, Kp [] H0 H1 → Kp [] B H1 → ∀ Q : VK, (∀ v H2 d, Kp [] H1 H2 → Dq (nw B H2) v d → Lv k d → Q v H2) → te σ H1 Q
def SX (te : TE) (σ : L2.St) (H0 : Hp) (n : Nat) : Prop := ∀ H1, Kp [] H0 H1 → ∀ Q : VK, (∀ z, StB n z → Q (.str z) H1) → te σ H1 Q
def DXA (ta : TA) (σ : L2.St) (B H0 : Hp) (k n : Nat) : Prop := ∀ H1, Kp [] H0 H1 → Kp [] B H1 → ∀ Q : List V → Hp → Prop, (∀ vs H2 ds, Kp [] H1 H2 → DqAll (nw B H2) vs ds → (∀ d ∈ ds, Lv k d) → ds.length = n → Q vs H2) → ta σ H1 Q
/-- a list of n of them -/
def LX (te : TE) (σ : L2.St) (B H0 : Hp) (k n : Nat) : Prop := ∀ H1, Kp [] H0 H1 → Kp [] B H1 → ∀ Q : VK, (∀ p H2 us ds, Kp [] H1 H2 → H2 p = some (.lst us) → DqAll (nw B H2) us ds → (∀ d ∈ ds, Lv k d) → ds.length = n → Q (.ref p) H2) → te σ H1 Q
section
variable {σ : L2.St} {B H0 : Hp} {te tf : TE} {ta : TA} {k n m : Nat} {tl th : TO}
theorem sx_c {z : Str} (h : (PyData.canLay0 (.str z) && decide (z.length ≤ n)) = true) : SX (tC (.str z)) σ H0 n := fun H1 _ Q q => q z (by
  rw [Bool.and_eq_true, decide_eq_true_eq] at h
  exact h)
theorem sx_var {i : Nat} {z : Str} (e : σ[i]? = some (some (.str z))) (h : StB n z) : SX (tVar i) σ H0 n := fun H1 _ Q q => ⟨_, e, q z h⟩
theorem sx_app (a : SX te σ H0 n) (b : SX tf σ H0 m) (hl : n + m ≤ 1000) : SX (tOp (fun x y H Q => ∃ i, x = V.str i ∧ ∃ x, y = V.str x ∧ i.length + x.length ≤ sizeLine ∧ Q (V.str (i ++ x)) H) te tf) σ H0 (n + m) := fun H1 k1 Q q => a H1 k1 _ fun z hz => b H1 k1 _ fun y hy => ⟨z, rfl, y, rfl, by
  have := hz.2
  have := hy.2
  rw [sizeLine_eq]; omega, q _ (hz.app hy)⟩
def PX (tp : TO) (σ : L2.St) : Prop := ∀ (H1 : Hp) Q, (∀ i, Q i H1) → tp σ H1 Q
theorem px_no : PX tNoPart σ := fun _ _ q => q none
theorem px_c {i : Int} : PX (tPart (tC (.int i))) σ := fun _ _ q => ⟨i, rfl, q _⟩
theorem px_n {i : Int} : PX (tPart (tUn (rU fun i => V.int (-i)) (tC (.int i)))) σ := fun _ _ q => ⟨i, rfl, _, rfl, q _⟩
theorem sx_cut (a : SX te σ H0 n) (hn : n ≤ 1000) (p1 : PX tl σ) (p2 : PX th σ) : SX (tSl rSlS te tl th) σ H0 n := fun H1 k1 Q q => a H1 k1 _ fun z hz => p1 _ _ fun i => p2 _ _ fun j => ⟨z, rfl, by
  have := hz.2
  rw [sizeLine_eq]; omega, q _ (hz.cut i j)⟩
theorem dx_s (a : SX te σ H0 n) (hn : n ≤ 20) : DX te σ B H0 k := fun H1 k1 kb Q q => a H1 k1 _ fun z hz => q _ _ _ (Kp.refl _ _) (.str z) (hz.lv hn)
theorem dx_int {i : Int} (h : i.natAbs < 1000 := by decide) : DX (tC (.int i)) σ B H0 k := fun H1 k1 kb Q q => q _ _ _ (Kp.refl _ _) (.int i) ((sh_int h).mono (by omega) (by omega))
theorem dx_non : DX (tC .non) σ B H0 k := fun H1 k1 kb Q q => q _ _ _ (Kp.refl _ _) .non (sh_none.mono (by omega) (by omega))
theorem dxa_nil : DXA tNil σ B H0 k 0 := fun H1 _ _ Q q => q _ _ _ (Kp.refl _ _) .nil (fun _ h => nomatch h) rfl
theorem dxa_cons (a : DX te σ B H0 k) (b : DXA ta σ B H0 k n) : DXA (tCons te ta) σ B H0 k (n + 1) := fun H1 k1 kb Q q => a H1 k1 kb _ fun v H2 d k2 hv lv => b H2 (k1.trans k2) (kb.trans k2) _ fun vs H3 ds k3 hvs lvs hl => q _ _ _ (k2.trans k3) (.cons (hv.kp (nw_kp k3)) hvs) (fun x hx => by
  rcases List.mem_cons.mp hx with rfl | hx
  · exact lv
  · exact lvs x hx) (by rw [List.length_cons, hl])
theorem lv_tup {ds : List PyData} (h : ∀ d ∈ ds, Lv k d) (l : ds.length ≤ 3) : Lv (k + 1) (.tuple ds) := (sh_tup h).mono (Nat.le_refl _) (Nat.mul_le_mul_left _ l)
theorem lv_lst {ds : List PyData} (h : ∀ d ∈ ds, Lv k d) (l : ds.length ≤ 3) : Lv (k + 1) (.list ds) := (sh_lst h).mono (Nat.le_refl _) (Nat.mul_le_mul_left _ l)
theorem dx_tup (a : DXA ta σ B H0 k n) (l : n ≤ 3) : DX (tTup ta) σ B H0 (k + 1) := fun H1 k1 kb Q q => a H1 k1 kb _ fun vs H2 ds k2 hvs lvs hl => ⟨by rw [hvs.len, sizeLine_eq]; omega, fun p np => q _ _ _ (k2.trans (Kp.new np)) (.tup (nw_new (kb.trans k2) np) (DqAll.kp (nw_kp (Kp.new np)) hvs)) (lv_tup lvs (by omega))⟩
theorem dx_lst (a : DXA ta σ B H0 k n) (l : n ≤ 3) : DX (tLst ta) σ B H0 (k + 1) := fun H1 k1 kb Q q => a H1 k1 kb _ fun vs H2 ds k2 hvs lvs hl => ⟨by rw [hvs.len, sizeLine_eq]; omega, fun p np => q _ _ _ (k2.trans (Kp.new np)) (.lst (nw_new (kb.trans k2) np) (DqAll.kp (nw_kp (Kp.new np)) hvs)) (lv_lst lvs (by omega))⟩
theorem dx_tup0 : DX (tTup tNil) σ B H0 (k + 1) := dx_tup dxa_nil (by decide)
theorem dx_tup1 {t1 : TE} (a : DX t1 σ B H0 k) : DX (tTup (tCons t1 tNil)) σ B H0 (k + 1) := dx_tup (dxa_cons a dxa_nil) (by decide)
theorem dx_tup2 {t1 t2 : TE} (a : DX t1 σ B H0 k) (b : DX t2 σ B H0 k) : DX (tTup (tCons t1 (tCons t2 tNil))) σ B H0 (k + 1) := dx_tup (dxa_cons a (dxa_cons b dxa_nil)) (by decide)
theorem dx_tup3 {t1 t2 t3 : TE} (a : DX t1 σ B H0 k) (b : DX t2 σ B H0 k) (c : DX t3 σ B H0 k) : DX (tTup (tCons t1 (tCons t2 (tCons t3 tNil)))) σ B H0 (k + 1) := dx_tup (dxa_cons a (dxa_cons b (dxa_cons c dxa_nil))) (by decide)
theorem dx_lst0 : DX (tLst tNil) σ B H0 (k + 1) := dx_lst dxa_nil (by decide)
theorem dx_lst1 {t1 : TE} (a : DX t1 σ B H0 k) : DX (tLst (tCons t1 tNil)) σ B H0 (k + 1) := dx_lst (dxa_cons a dxa_nil) (by decide)
theorem dx_lst2 {t1 t2 : TE} (a : DX t1 σ B H0 k) (b : DX t2 σ B H0 k) : DX (tLst (tCons t1 (tCons t2 tNil))) σ B H0 (k + 1) := dx_lst (dxa_cons a (dxa_cons b dxa_nil)) (by decide)
theorem dx_lst3 {t1 t2 t3 : TE} (a : DX t1 σ B H0 k) (b : DX t2 σ B H0 k) (c : DX t3 σ B H0 k) : DX (tLst (tCons t1 (tCons t2 (tCons t3 tNil)))) σ B H0 (k + 1) := dx_lst (dxa_cons a (dxa_cons b (dxa_cons c dxa_nil))) (by decide)
theorem lx_lst (a : DXA ta σ B H0 k n) (l : n ≤ 1000 := by decide) : LX (tLst ta) σ B H0 k n := fun H1 k1 kb Q q => a H1 k1 kb _ fun vs H2 ds k2 hvs lvs hl => ⟨by rw [hvs.len, sizeLine_eq]; omega, fun p np => q _ _ _ _ (k2.trans (Kp.new np)) upd_same (DqAll.kp (nw_kp (Kp.new np)) hvs) lvs hl⟩
theorem lx_var {i : Nat} {p : Addr} {us : List V} {ds : List PyData} (e : σ[i]? = some (some (.ref p))) (h : H0 p = some (.lst us)) (hd : DqAll (nw B H0) us ds) (lv : ∀ d ∈ ds, Lv k d) (hl : ds.length = n) : LX (tVar i) σ B H0 k n := fun H1 k1 kb Q q => ⟨_, e, q p H1 us ds (Kp.refl _ _) (k1 _ _ not0 h) (DqAll.kp (nw_kp k1) hd) lv hl⟩
theorem DqAll.app {H : Hp} : ∀ {as bs : List PyData} {us vs : List V}, DqAll H us as → DqAll H vs bs → DqAll H (us ++ vs) (as ++ bs)
  | [], _, _, _, h, h' => by cases h; exact h'
  | a :: as, _, _, _, h, h' => by
    cases h with
    | cons x t => exact .cons x (DqAll.app t h')
theorem lx_cat (a : LX te σ B H0 k n) (b : LX tf σ B H0 k m) (hl : n + m ≤ 1000 := by decide) : LX (tOp rCat te tf) σ B H0 k (n + m) := fun H1 k1 kb Q q => a H1 k1 kb _ fun p H2 us ds k2 hp hd lv ln => b H2 (k1.trans k2) (kb.trans k2) _ fun r H3 ws es k3 hr he lv2 lm => by
  have hp3 := k3 _ _ not0 hp
  have hd3 := DqAll.kp (nw_kp k3) hd
  refine ⟨p, r, us, ws, rfl, rfl, hp3, hr, by rw [hd3.len, he.len, sizeLine_eq]; omega, fun x nx => q x _ _ _ ((k2.trans k3).trans (Kp.new nx)) upd_same (DqAll.kp (nw_kp (Kp.new nx)) (DqAll.app hd3 he)) (fun d hd => ?_) (by rw [List.length_append]; omega)⟩
  rcases List.mem_append.mp hd with h | h
  · exact lv d h
  · exact lv2 d h
end
end My

set_option Elab.async false
set_option linter.all false
set_option maxRecDepth 100000
set_option maxHeartbeats 4000000
namespace My
open PySem L2
def top (i : Nat) : Stmt := PySem.Challenge.pw_coretower_k25_first_spoilt_step.main.body.getD i (.Pass ⟨0, 0, 0, 0⟩)
abbrev s_is_name : Stmt := top 8
theorem sc_is_name : FnScope ["value", "letter"] ["value"] (defScope s_is_name) := ⟨rfl, rfl, rfl, by decide +kernel, rfl, by decide +kernel, by decide +kernel⟩
abbrev s_is_below : Stmt := top 9
theorem sc_is_below : FnScope ["value", "bound"] ["value", "bound"] (defScope s_is_below) := ⟨rfl, rfl, rfl, by decide +kernel, rfl, by decide +kernel, by decide +kernel⟩
abbrev s_is_number : Stmt := top 10
theorem sc_is_number : FnScope ["value"] ["value"] (defScope s_is_number) := ⟨rfl, rfl, rfl, by decide +kernel, rfl, by decide +kernel, by decide +kernel⟩
abbrev s_is_step : Stmt := top 14
theorem sc_is_step : FnScope ["step", "roles", "part", "role"] ["step"] (defScope s_is_step) := ⟨rfl, rfl, rfl, by decide +kernel, rfl, by decide +kernel, by decide +kernel⟩
abbrev s_is_part : Stmt := top 15
theorem sc_is_part : FnScope ["part", "role"] ["part", "role"] (defScope s_is_part) := ⟨rfl, rfl, rfl, by decide +kernel, rfl, by decide +kernel, by decide +kernel⟩
abbrev s_is_place : Stmt := top 16
theorem sc_is_place : FnScope ["part", "name"] ["part"] (defScope s_is_place) := ⟨rfl, rfl, rfl, by decide +kernel, rfl, by decide +kernel, by decide +kernel⟩
abbrev s_is_worth : Stmt := top 17
theorem sc_is_worth : FnScope ["part", "item"] ["part"] (defScope s_is_worth) := ⟨rfl, rfl, rfl, by decide +kernel, rfl, by decide +kernel, by decide +kernel⟩
abbrev s_is_guard : Stmt := top 18
theorem sc_is_guard : FnScope ["part", "local", "sign", "worth"] ["part"] (defScope s_is_guard) := ⟨rfl, rfl, rfl, by decide +kernel, rfl, by decide +kernel, by decide +kernel⟩
def lets : Str := "abcdefghijklmnopqrstuvwxyz"
/-! ### what a name, a place, a worth, a guard, a step is -/
def lowC (c : Nat) : Bool := decide (97 ≤ c) && decide (c ≤ 122)
def nameS (z : Str) : Bool := decide (1 ≤ z.length) && (decide (z.length ≤ 8) && z.cps.toList.all lowC)
def nameD : PyData → Bool
  | .str z => nameS z
  | _ => false
def belowD (m : Int) : PyData → Bool
  | .int i => decide (0 ≤ i) && decide (i < m)
  | _ => false
def placeD : PyData → Bool
  | .tuple ds => ds.length == 2 && ds.all nameD
  | d => nameD d
def worthD : PyData → Bool
  | .tuple ds => decide (1 ≤ ds.length) && (decide (ds.length ≤ 3) && ds.all fun d => nameD d || belowD 10 d)
  | _ => false
def signS (z : Str) : Bool := inV (.str z) [.str "=", .str "!", .str "<"]
def guardD : PyData → Bool
  | .tuple [l, .str z, w] => nameD l && (signS z && worthD w)
  | _ => false
def scD : PyData → Bool
  | .list _ => false
  | .tuple _ => false
  | .dict _ => false
  | _ => true
def sgD : PyData → Bool
  | .str z => signS z
  | _ => false
/-- the sign of a guard whose local is a name is a scalar -/
def sgOk : PyData → Prop
  | .tuple [l, s, _] => nameD l = true → scD s = true
  | _ => True
theorem gd3 (l s w : PyData) : guardD (.tuple [l, s, w]) = (nameD l && (sgD s && worthD w)) := by
  cases s <;> simp [guardD, sgD]
def partD (r : Str) (d : PyData) : Bool :=
  if r = "place" then placeD d else if r = "worth" then worthD d else if r = "guard" then (match d with | .none => true | d => guardD d) else nameD d
mutual
def szD : PyData → Bool
  | .str z => decide (z.length ≤ 1000)
  | .tuple ds => szAll ds
  | .list ds => szAll ds
  | _ => true
def szAll : List PyData → Bool
  | [] => true
  | d :: ds => szD d && szAll ds
end
mutual
def noL : PyData → Bool
  | .list _ => false
  | .tuple ds => noLAll ds
  | _ => true
def noLAll : List PyData → Bool
  | [] => true
  | d :: ds => noL d && noLAll ds
end
mutual
theorem Dq.kpS {H H' : Hp} {S : List Addr} (k : Kp S H H') (hS : ∀ a ∈ S, ∃ xs, H a = some (.lst xs)) : ∀ {d : PyData} {v : V}, Dq H v d → noL d = true → Dq H' v d
  | _, _, .non, _ => .non
  | _, _, .bl b, _ => .bl b
  | _, _, .int i, _ => .int i
  | _, _, .str x, _ => .str x
  | _, _, .lst e h, z => by cases z
  | _, _, .tup e h, z => .tup (k _ _ (fun m => by
      obtain ⟨xs, q⟩ := hS _ m
      rw [e] at q; cases q) e) (DqAll.kpS k hS h z)
theorem DqAll.kpS {H H' : Hp} {S : List Addr} (k : Kp S H H') (hS : ∀ a ∈ S, ∃ xs, H a = some (.lst xs)) : ∀ {ds : List PyData} {vs : List V}, DqAll H vs ds → noLAll ds = true → DqAll H' vs ds
  | _, _, .nil, _ => .nil
  | _, _, .cons h t, z => by
    have z' := Bool.and_eq_true_iff.mp z
    exact .cons (Dq.kpS k hS h z'.1) (DqAll.kpS k hS t z'.2)
end
theorem szAll_mem : ∀ {ds : List PyData}, szAll ds = true → ∀ d ∈ ds, szD d = true
  | d :: ds, h, e, he => by
    have h' : (szD d && szAll ds) = true := h
    rw [Bool.and_eq_true] at h'
    rcases List.mem_cons.mp he with rfl | he
    · exact h'.1
    · exact szAll_mem h'.2 e he
def forms : List (Str × List Str) := [("read", ["local", "place", "guard"]), ("acquire", ["local", "place", "guard"]), ("write", ["place", "worth", "guard"]), ("release", ["place", "worth", "guard"]), ("swap", ["local", "place", "worth", "guard"]),
  ("cas", ["local", "place", "worth", "worth", "guard"]), ("fence", ["name", "guard"]), ("lock", ["name"]), ("free", ["name"]), ("take", ["local", "guard"]), ("drop", ["local", "guard"]), ("give", ["worth", "guard"])]
def stepD (rs : List Str) (ds : List PyData) : Bool := ds.length == rs.length && ((ds.zip rs).all fun p => partD p.2 p.1)
/-- a written tuple of texts -/
def WrT (K : PySem.W.Frag) (R : Addr) (rs : List Str) : Prop := ∃ (o : Obj) (its : Array Value) (n : Nat), K.lookup R = some o ∧ o.cls = .type "tuple" ∧ o.data = .seq its n ∧ its.size ≤ sizeLine ∧ Vals (rs.map V.str) its.toList
/-- words that no step begins with -/
def oddWs : List Str := ["", "Read", "load", "unlock", "both", "return", "again", "reads", "lock "]
structure Bt (K : PySem.W.Frag) (w : World) (mg : Str → Option Value) (T_FORMS T_SIGNS : Addr) (es : Array DictEntry) (n : Nat) (tL : Tok) : Prop where
  b_isinstance : mg "isinstance" = none
  b_str : mg "str" = none
  b_int : mg "int" = none
  b_bool : mg "bool" = none
  b_tuple : mg "tuple" = none
  b_len : mg "len" = none
  b_all : mg "all" = none
  b_zip : mg "zip" = none
  c_LETTERS : mg "LETTERS" = some (.str lets tL)
  c_FORMS : mg "FORMS" = some (.ref T_FORMS)
  c_SIGNS : mg "SIGNS" = some (.ref T_SIGNS)
  DF : KDict K w T_FORMS es n
  fm : ∀ p ∈ forms, ∃ R, PySem.W.nsIn K T_FORMS p.1 = some (some (.ref R)) ∧ WrT K R p.2
  fo : ∀ x ∈ oddWs, PySem.W.nsIn K T_FORMS x = some none
  sg : WrT K T_SIGNS ["=", "!", "<"]
/-- the promise of a test of data -/
def spD (pre : PyData → Prop) (f : PyData → Bool) : Sp := fun vs H Q _ => ∃ (v : V) (d : PyData), vs = [v] ∧ Dq H v d ∧ szD d = true ∧ pre d ∧ ∀ H', Kp [] H H' → Q (.bl (f d)) H'
def LowIn (z : Str) (D : Addr) (H : Hp) (i : Nat) (H' : Hp) : Prop := H' D = some (.lst ((z.cps.toList.take i).map fun c => V.bl (lowC c))) ∧ Kp [] H H'
theorem lets_mem (c : Nat) : decide (c ∈ lets.cps.toList) = lowC c := by
  have e : lets.cps.toList = (List.range 26).map (97 + ·) := by decide +kernel
  rw [e, Bool.eq_iff_iff, decide_eq_true_eq]
  unfold lowC
  rw [Bool.and_eq_true, decide_eq_true_eq, decide_eq_true_eq, List.mem_map]
  constructor
  · rintro ⟨i, hi, rfl⟩
    have := List.mem_range.mp hi
    omega
  · rintro ⟨h1, h2⟩
    exact ⟨c - 97, List.mem_range.mpr (by omega), by omega⟩
theorem all_take {α : Type} {f : α → Bool} {l : List α} : ((l.map fun c => f c).all id) = l.all f := by
  rw [List.all_map]; rfl
theorem take_snocA {α : Type} {l : List α} {i : Nat} {x : α} (h : l[i]? = some x) : l.take (i + 1) = l.take i ++ [x] := by
  rw [List.take_add_one, h]; rfl
section
variable {P : Program} {w : World} {K : PySem.W.Frag} {mg : Str → Option Value} {base : Heap} {T_FORMS T_SIGNS : Addr} {es : Array DictEntry} {n : Nat} {tL : Tok}
theorem ok_is_name {f : Addr} {fd : FuncData} (D : Df K mg "is_name" s_is_name ["value"] f fd) (T : Bt K w mg T_FORMS T_SIGNS es n tL) : FnOk P w K mg base CX0 1 f fd ["value"] (spD (fun _ => True) nameD) := by
  refine D.F.ok sc_is_name (fun vs H Q E h => ?_) (fun cdv A outer s H vs Q E hr h => ?_)
  · obtain ⟨a, m, rfl, _⟩ := h
    rfl
  · obtain ⟨v, d, rfl, hd, sz, _, q⟩ := h
    have hu := hu_of hr
    refine ⟨_, (pss_cons (ps_if (pt_not (pt_val (pe_callB (id := "isinstance") (r := rIsi K) call_isi (by rfl) T.b_isinstance (by decide +kernel) (pa_cons (pv 0) (pa_cons (pe_bltn (v := .ty "str") (by rfl) T.b_str (by decide +kernel) rfl) pa_nil))))) (pss_one (ps_ret pe_bl)) pss_nil)
      (pss_one (ps_ret (pe_and (pe_chain op_le op_le pe_int (pe_callB (id := "len") call_len_str (by rfl) T.b_len PySem.boot_len (pa_cons (pv 0) pa_nil)) pe_int) (pe_one (pe_callB (id := "all") (r := rAll K) (cr_all rfl) (by rfl) T.b_all (by decide +kernel) (pa_cons (pe_lc (own := [("letter", 1)]) (g := (gName 1)) (tt := tYes) rfl sc_is_name.nd (pi_str (pv 0)) (blkOk_by (N := ["value", "letter"]) (sc := defScope s_is_name) (by decide +kernel)) (fun _ _ _ _ _ => (pg_name (i := 1) sc_is_name.nd rfl (Or.inl rfl))) (fun _ _ _ _ _ => pts_nil) (fun _ _ _ _ _ => (pe_cmpR op_in_sign (pv 1) (pe_glob (v := .str lets) rfl T.c_LETTERS ⟨_, rfl⟩) (by rfl)))) pa_nil))))))), ?_⟩
    try simp (maxSteps := 1000000) only [tSeq, tIfS, tTest, tOp, tUn, tCB, tCons, tNil, tVar, tC, rI0, rI, rU, rEq, rNe, tRet, tRetN, tAsg, gName, gSub, tBM, tBM0, tNext, tB, tNot, tAnd, tOr, tIf, tCall, tDrop, tBreak, tCont, L2.start, tDGet, sDPut, tTup, tLst, tDNewK, tRevL, rCat, rAppend, rPop, rSetL, tAndV, tOrV, tNotV, tSl, tPart, tNoPart, tM1, gTup, gCons, gNil, cxK, cxnK, List.map_cons, List.map_nil, List.length_cons, List.length_nil, List.replicate, List.cons_append, List.nil_append, List.append_nil, List.set_cons_zero, List.set_cons_succ, List.getElem?_cons_zero, List.getElem?_cons_succ, Option.some.injEq, V.ref.injEq, V.int.injEq, V.str.injEq, V.bl.injEq, V.ty.injEq, exists_eq_left', exists_eq_left, exists_and_left, List.cons.injEq, and_true, true_and, sc_ii, sc_ss, sc_bb, sc_ni, sc_in, sc_is, sc_si, sc_nn, decide_true, decide_false, reduceCtorEq, Bool.false_eq_true, if_true, if_false, ite_true, ite_false, exists_const, eq_self, false_and, and_false, or_false, false_or, exists_false, Evl.rLenS, rSum, wipe, tYes, exists_eq, exists_eq', rIxL, rIxT, rIxS, exists_and_right, gt_iff_lt, not_true_eq_false, not_false_eq_true, Bool.not_true, Bool.not_false, decide_eq_true_eq, Nat.reduceSub, Nat.reduceAdd, List.append_assoc, tChain, tDIn, tDNotIn, sDDel, tAug, ipI]
    refine isi_Dstr hd ?_
    try simp (maxSteps := 1000000) only [tSeq, tIfS, tTest, tOp, tUn, tCB, tCons, tNil, tVar, tC, rI0, rI, rU, rEq, rNe, tRet, tRetN, tAsg, gName, gSub, tBM, tBM0, tNext, tB, tNot, tAnd, tOr, tIf, tCall, tDrop, tBreak, tCont, L2.start, tDGet, sDPut, tTup, tLst, tDNewK, tRevL, rCat, rAppend, rPop, rSetL, tAndV, tOrV, tNotV, tSl, tPart, tNoPart, tM1, gTup, gCons, gNil, cxK, cxnK, List.map_cons, List.map_nil, List.length_cons, List.length_nil, List.replicate, List.cons_append, List.nil_append, List.append_nil, List.set_cons_zero, List.set_cons_succ, List.getElem?_cons_zero, List.getElem?_cons_succ, Option.some.injEq, V.ref.injEq, V.int.injEq, V.str.injEq, V.bl.injEq, V.ty.injEq, exists_eq_left', exists_eq_left, exists_and_left, List.cons.injEq, and_true, true_and, sc_ii, sc_ss, sc_bb, sc_ni, sc_in, sc_is, sc_si, sc_nn, decide_true, decide_false, reduceCtorEq, Bool.false_eq_true, if_true, if_false, ite_true, ite_false, exists_const, eq_self, false_and, and_false, or_false, false_or, exists_false, Evl.rLenS, rSum, wipe, tYes, exists_eq, exists_eq', rIxL, rIxT, rIxS, exists_and_right, gt_iff_lt, not_true_eq_false, not_false_eq_true, Bool.not_true, Bool.not_false, decide_eq_true_eq, Nat.reduceSub, Nat.reduceAdd, List.append_assoc, tChain, tDIn, tDNotIn, sDDel, tAug, ipI]
    cases hd with
    | str z =>
      try simp (maxSteps := 1000000) only [tSeq, tIfS, tTest, tOp, tUn, tCB, tCons, tNil, tVar, tC, rI0, rI, rU, rEq, rNe, tRet, tRetN, tAsg, gName, gSub, tBM, tBM0, tNext, tB, tNot, tAnd, tOr, tIf, tCall, tDrop, tBreak, tCont, L2.start, tDGet, sDPut, tTup, tLst, tDNewK, tRevL, rCat, rAppend, rPop, rSetL, tAndV, tOrV, tNotV, tSl, tPart, tNoPart, tM1, gTup, gCons, gNil, cxK, cxnK, List.map_cons, List.map_nil, List.length_cons, List.length_nil, List.replicate, List.cons_append, List.nil_append, List.append_nil, List.set_cons_zero, List.set_cons_succ, List.getElem?_cons_zero, List.getElem?_cons_succ, Option.some.injEq, V.ref.injEq, V.int.injEq, V.str.injEq, V.bl.injEq, V.ty.injEq, exists_eq_left', exists_eq_left, exists_and_left, List.cons.injEq, and_true, true_and, sc_ii, sc_ss, sc_bb, sc_ni, sc_in, sc_is, sc_si, sc_nn, decide_true, decide_false, reduceCtorEq, Bool.false_eq_true, if_true, if_false, ite_true, ite_false, exists_const, eq_self, false_and, and_false, or_false, false_or, exists_false, Evl.rLenS, rSum, wipe, tYes, exists_eq, exists_eq', rIxL, rIxT, rIxS, exists_and_right, gt_iff_lt, not_true_eq_false, not_false_eq_true, Bool.not_true, Bool.not_false, decide_eq_true_eq, Nat.reduceSub, Nat.reduceAdd, List.append_assoc, tChain, tDIn, tDNotIn, sDDel, tAug, ipI, isStrD]
      have zs : z.cps.toList.length = z.length := Array.length_toList
      have zl : z.length ≤ 1000 := of_decide_eq_true sz
      have q' : ∀ H', Kp [] H H' → Q (.bl (nameS z)) H' := q
      unfold nameS at q'
      refine ⟨small (by omega), ?_⟩
      by_cases h1 : 1 ≤ z.length
      · by_cases h8 : z.length ≤ 8
        · have e1 : (1 : Int) ≤ (z.length : Nat) := by omega
          have e8 : ((z.length : Nat) : Int) ≤ 8 := by omega
          rw [decide_eq_true h1, decide_eq_true h8] at q'
          rw [if_pos e1, if_pos e8]
          refine ⟨.str z, rfl, z, rfl, fun o no => lc_it walk_str (LowIn z o H) ⟨upd_same, Kp.new no⟩ (fun _ _ _ _ => True.intro) ?_ ?_⟩
          · rintro i x H1 H2 hi ⟨ho, kp⟩ ⟨rfl, c, hc, rfl⟩
            try simp (maxSteps := 1000000) only [tSeq, tIfS, tTest, tOp, tUn, tCB, tCons, tNil, tVar, tC, rI0, rI, rU, rEq, rNe, tRet, tRetN, tAsg, gName, gSub, tBM, tBM0, tNext, tB, tNot, tAnd, tOr, tIf, tCall, tDrop, tBreak, tCont, L2.start, tDGet, sDPut, tTup, tLst, tDNewK, tRevL, rCat, rAppend, rPop, rSetL, tAndV, tOrV, tNotV, tSl, tPart, tNoPart, tM1, gTup, gCons, gNil, cxK, cxnK, List.map_cons, List.map_nil, List.length_cons, List.length_nil, List.replicate, List.cons_append, List.nil_append, List.append_nil, List.set_cons_zero, List.set_cons_succ, List.getElem?_cons_zero, List.getElem?_cons_succ, Option.some.injEq, V.ref.injEq, V.int.injEq, V.str.injEq, V.bl.injEq, V.ty.injEq, exists_eq_left', exists_eq_left, exists_and_left, List.cons.injEq, and_true, true_and, sc_ii, sc_ss, sc_bb, sc_ni, sc_in, sc_is, sc_si, sc_nn, decide_true, decide_false, reduceCtorEq, Bool.false_eq_true, if_true, if_false, ite_true, ite_false, exists_const, eq_self, false_and, and_false, or_false, false_or, exists_false, Evl.rLenS, rSum, wipe, tYes, exists_eq, exists_eq', rIxL, rIxT, rIxS, exists_and_right, gt_iff_lt, not_true_eq_false, not_false_eq_true, Bool.not_true, Bool.not_false, decide_eq_true_eq, Nat.reduceSub, Nat.reduceAdd, List.append_assoc, tChain, tDIn, tDNotIn, sDDel, tAug, ipI]
            refine ⟨c, rfl, _, ho, ?_, ?_, kp.wr no⟩
            · rw [List.length_map, List.length_take, zs]; exact smallL (by omega)
            · rw [upd_same, lets_mem, take_snocA (x := c) (by rw [← hc]; simp), List.map_append]; rfl
          · rintro H1 ⟨ho, kp⟩
            have q2 := q' H1 kp
            rw [← all_take] at q2
            refine ⟨_, z.cps.toList.map lowC, rfl, sq_l (ho.trans ?_), ?_⟩
            · rw [List.take_of_length_le (by simp), List.map_map]; rfl
            · simpa using q2
        · have e1 : (1 : Int) ≤ (z.length : Nat) := by omega
          have e8 : ¬ ((z.length : Nat) : Int) ≤ 8 := by omega
          rw [decide_eq_true h1, decide_eq_false h8] at q'
          rw [if_pos e1, if_neg e8]
          exact q' _ (Kp.refl _ _)
      · have e1 : ¬ (1 : Int) ≤ (z.length : Nat) := by omega
        rw [decide_eq_false h1] at q'
        rw [if_neg e1]
        exact q' _ (Kp.refl _ _)
    | _ => exact q H (Kp.refl _ _)

def spBelow : Sp := fun vs H Q _ => ∃ (v : V) (d : PyData) (m : Int), vs = [v, .int m] ∧ Dq H v d ∧ Q (.bl (belowD m d)) H
theorem ok_is_below {f : Addr} {fd : FuncData} (D : Df K mg "is_below" s_is_below ["value", "bound"] f fd) (T : Bt K w mg T_FORMS T_SIGNS es n tL) : FnOk P w K mg base CX0 1 f fd ["value", "bound"] spBelow := by
  refine D.F.ok sc_is_below (fun vs H Q E h => ?_) (fun cdv A outer s H vs Q E hr h => ?_)
  · obtain ⟨v, d, m, rfl, _⟩ := h
    rfl
  · obtain ⟨v, d, m, rfl, hd, q⟩ := h
    refine ⟨_, (pss_one (ps_ret (pe_and (pe_callB (id := "isinstance") (r := rIsi K) call_isi (by rfl) T.b_isinstance (by decide +kernel) (pa_cons (pv 0) (pa_cons (pe_bltn (v := .ty "int") (by rfl) T.b_int (by decide +kernel) rfl) pa_nil))) (pe_and (pe_not (pe_callB (id := "isinstance") (r := rIsi K) call_isi (by rfl) T.b_isinstance (by decide +kernel) (pa_cons (pv 0) (pa_cons (pe_bltn (v := .ty "bool") (by rfl) T.b_bool (by decide +kernel) rfl) pa_nil)))) (pe_one (pe_chain op_le op_lt pe_int (pv 0) (pv 1))))))), ?_⟩
    try simp (maxSteps := 1000000) only [tSeq, tIfS, tTest, tOp, tUn, tCB, tCons, tNil, tVar, tC, rI0, rI, rU, rEq, rNe, tRet, tRetN, tAsg, gName, gSub, tBM, tBM0, tNext, tB, tNot, tAnd, tOr, tIf, tCall, tDrop, tBreak, tCont, L2.start, tDGet, sDPut, tTup, tLst, tDNewK, tRevL, rCat, rAppend, rPop, rSetL, tAndV, tOrV, tNotV, tSl, tPart, tNoPart, tM1, gTup, gCons, gNil, cxK, cxnK, List.map_cons, List.map_nil, List.length_cons, List.length_nil, List.replicate, List.cons_append, List.nil_append, List.append_nil, List.set_cons_zero, List.set_cons_succ, List.getElem?_cons_zero, List.getElem?_cons_succ, Option.some.injEq, V.ref.injEq, V.int.injEq, V.str.injEq, V.bl.injEq, V.ty.injEq, exists_eq_left', exists_eq_left, exists_and_left, List.cons.injEq, and_true, true_and, sc_ii, sc_ss, sc_bb, sc_ni, sc_in, sc_is, sc_si, sc_nn, decide_true, decide_false, reduceCtorEq, Bool.false_eq_true, if_true, if_false, ite_true, ite_false, exists_const, eq_self, false_and, and_false, or_false, false_or, exists_false, Evl.rLenS, rSum, wipe, tYes, exists_eq, exists_eq', rIxL, rIxT, rIxS, exists_and_right, gt_iff_lt, not_true_eq_false, not_false_eq_true, Bool.not_true, Bool.not_false, decide_eq_true_eq, Nat.reduceSub, Nat.reduceAdd, List.append_assoc, tChain, tDIn, tDNotIn, sDDel, tAug, ipI]
    refine isi_Dint hd ?_
    cases hd with
    | int i =>
      try simp (maxSteps := 1000000) only [tSeq, tIfS, tTest, tOp, tUn, tCB, tCons, tNil, tVar, tC, rI0, rI, rU, rEq, rNe, tRet, tRetN, tAsg, gName, gSub, tBM, tBM0, tNext, tB, tNot, tAnd, tOr, tIf, tCall, tDrop, tBreak, tCont, L2.start, tDGet, sDPut, tTup, tLst, tDNewK, tRevL, rCat, rAppend, rPop, rSetL, tAndV, tOrV, tNotV, tSl, tPart, tNoPart, tM1, gTup, gCons, gNil, cxK, cxnK, List.map_cons, List.map_nil, List.length_cons, List.length_nil, List.replicate, List.cons_append, List.nil_append, List.append_nil, List.set_cons_zero, List.set_cons_succ, List.getElem?_cons_zero, List.getElem?_cons_succ, Option.some.injEq, V.ref.injEq, V.int.injEq, V.str.injEq, V.bl.injEq, V.ty.injEq, exists_eq_left', exists_eq_left, exists_and_left, List.cons.injEq, and_true, true_and, sc_ii, sc_ss, sc_bb, sc_ni, sc_in, sc_is, sc_si, sc_nn, decide_true, decide_false, reduceCtorEq, Bool.false_eq_true, if_true, if_false, ite_true, ite_false, exists_const, eq_self, false_and, and_false, or_false, false_or, exists_false, Evl.rLenS, rSum, wipe, tYes, exists_eq, exists_eq', rIxL, rIxT, rIxS, exists_and_right, gt_iff_lt, not_true_eq_false, not_false_eq_true, Bool.not_true, Bool.not_false, decide_eq_true_eq, Nat.reduceSub, Nat.reduceAdd, List.append_assoc, tChain, tDIn, tDNotIn, sDDel, tAug, ipI, isIntD]
      refine isi_int_bool ?_
      try simp (maxSteps := 1000000) only [tSeq, tIfS, tTest, tOp, tUn, tCB, tCons, tNil, tVar, tC, rI0, rI, rU, rEq, rNe, tRet, tRetN, tAsg, gName, gSub, tBM, tBM0, tNext, tB, tNot, tAnd, tOr, tIf, tCall, tDrop, tBreak, tCont, L2.start, tDGet, sDPut, tTup, tLst, tDNewK, tRevL, rCat, rAppend, rPop, rSetL, tAndV, tOrV, tNotV, tSl, tPart, tNoPart, tM1, gTup, gCons, gNil, cxK, cxnK, List.map_cons, List.map_nil, List.length_cons, List.length_nil, List.replicate, List.cons_append, List.nil_append, List.append_nil, List.set_cons_zero, List.set_cons_succ, List.getElem?_cons_zero, List.getElem?_cons_succ, Option.some.injEq, V.ref.injEq, V.int.injEq, V.str.injEq, V.bl.injEq, V.ty.injEq, exists_eq_left', exists_eq_left, exists_and_left, List.cons.injEq, and_true, true_and, sc_ii, sc_ss, sc_bb, sc_ni, sc_in, sc_is, sc_si, sc_nn, decide_true, decide_false, reduceCtorEq, Bool.false_eq_true, if_true, if_false, ite_true, ite_false, exists_const, eq_self, false_and, and_false, or_false, false_or, exists_false, Evl.rLenS, rSum, wipe, tYes, exists_eq, exists_eq', rIxL, rIxT, rIxS, exists_and_right, gt_iff_lt, not_true_eq_false, not_false_eq_true, Bool.not_true, Bool.not_false, decide_eq_true_eq, Nat.reduceSub, Nat.reduceAdd, List.append_assoc, tChain, tDIn, tDNotIn, sDDel, tAug, ipI]
      by_cases h0 : 0 ≤ i
      · simp only [h0, decide_true, if_true]
        have q' : Q (.bl (decide (0 ≤ i) && decide (i < m))) H := q
        rw [decide_eq_true h0] at q'
        exact q'
      · simp only [h0, decide_false, Bool.false_eq_true, if_false]
        have q' : Q (.bl (decide (0 ≤ i) && decide (i < m))) H := q
        rw [decide_eq_false h0] at q'
        exact q'
    | bl b =>
      try simp (maxSteps := 1000000) only [tSeq, tIfS, tTest, tOp, tUn, tCB, tCons, tNil, tVar, tC, rI0, rI, rU, rEq, rNe, tRet, tRetN, tAsg, gName, gSub, tBM, tBM0, tNext, tB, tNot, tAnd, tOr, tIf, tCall, tDrop, tBreak, tCont, L2.start, tDGet, sDPut, tTup, tLst, tDNewK, tRevL, rCat, rAppend, rPop, rSetL, tAndV, tOrV, tNotV, tSl, tPart, tNoPart, tM1, gTup, gCons, gNil, cxK, cxnK, List.map_cons, List.map_nil, List.length_cons, List.length_nil, List.replicate, List.cons_append, List.nil_append, List.append_nil, List.set_cons_zero, List.set_cons_succ, List.getElem?_cons_zero, List.getElem?_cons_succ, Option.some.injEq, V.ref.injEq, V.int.injEq, V.str.injEq, V.bl.injEq, V.ty.injEq, exists_eq_left', exists_eq_left, exists_and_left, List.cons.injEq, and_true, true_and, sc_ii, sc_ss, sc_bb, sc_ni, sc_in, sc_is, sc_si, sc_nn, decide_true, decide_false, reduceCtorEq, Bool.false_eq_true, if_true, if_false, ite_true, ite_false, exists_const, eq_self, false_and, and_false, or_false, false_or, exists_false, Evl.rLenS, rSum, wipe, tYes, exists_eq, exists_eq', rIxL, rIxT, rIxS, exists_and_right, gt_iff_lt, not_true_eq_false, not_false_eq_true, Bool.not_true, Bool.not_false, decide_eq_true_eq, Nat.reduceSub, Nat.reduceAdd, List.append_assoc, tChain, tDIn, tDNotIn, sDDel, tAug, ipI, isIntD]
      refine isi_bl_bool ?_
      try simp (maxSteps := 1000000) only [tSeq, tIfS, tTest, tOp, tUn, tCB, tCons, tNil, tVar, tC, rI0, rI, rU, rEq, rNe, tRet, tRetN, tAsg, gName, gSub, tBM, tBM0, tNext, tB, tNot, tAnd, tOr, tIf, tCall, tDrop, tBreak, tCont, L2.start, tDGet, sDPut, tTup, tLst, tDNewK, tRevL, rCat, rAppend, rPop, rSetL, tAndV, tOrV, tNotV, tSl, tPart, tNoPart, tM1, gTup, gCons, gNil, cxK, cxnK, List.map_cons, List.map_nil, List.length_cons, List.length_nil, List.replicate, List.cons_append, List.nil_append, List.append_nil, List.set_cons_zero, List.set_cons_succ, List.getElem?_cons_zero, List.getElem?_cons_succ, Option.some.injEq, V.ref.injEq, V.int.injEq, V.str.injEq, V.bl.injEq, V.ty.injEq, exists_eq_left', exists_eq_left, exists_and_left, List.cons.injEq, and_true, true_and, sc_ii, sc_ss, sc_bb, sc_ni, sc_in, sc_is, sc_si, sc_nn, decide_true, decide_false, reduceCtorEq, Bool.false_eq_true, if_true, if_false, ite_true, ite_false, exists_const, eq_self, false_and, and_false, or_false, false_or, exists_false, Evl.rLenS, rSum, wipe, tYes, exists_eq, exists_eq', rIxL, rIxT, rIxS, exists_and_right, gt_iff_lt, not_true_eq_false, not_false_eq_true, Bool.not_true, Bool.not_false, decide_eq_true_eq, Nat.reduceSub, Nat.reduceAdd, List.append_assoc, tChain, tDIn, tDNotIn, sDDel, tAug, ipI]
      exact q
    | _ =>
      try simp (maxSteps := 1000000) only [tSeq, tIfS, tTest, tOp, tUn, tCB, tCons, tNil, tVar, tC, rI0, rI, rU, rEq, rNe, tRet, tRetN, tAsg, gName, gSub, tBM, tBM0, tNext, tB, tNot, tAnd, tOr, tIf, tCall, tDrop, tBreak, tCont, L2.start, tDGet, sDPut, tTup, tLst, tDNewK, tRevL, rCat, rAppend, rPop, rSetL, tAndV, tOrV, tNotV, tSl, tPart, tNoPart, tM1, gTup, gCons, gNil, cxK, cxnK, List.map_cons, List.map_nil, List.length_cons, List.length_nil, List.replicate, List.cons_append, List.nil_append, List.append_nil, List.set_cons_zero, List.set_cons_succ, List.getElem?_cons_zero, List.getElem?_cons_succ, Option.some.injEq, V.ref.injEq, V.int.injEq, V.str.injEq, V.bl.injEq, V.ty.injEq, exists_eq_left', exists_eq_left, exists_and_left, List.cons.injEq, and_true, true_and, sc_ii, sc_ss, sc_bb, sc_ni, sc_in, sc_is, sc_si, sc_nn, decide_true, decide_false, reduceCtorEq, Bool.false_eq_true, if_true, if_false, ite_true, ite_false, exists_const, eq_self, false_and, and_false, or_false, false_or, exists_false, Evl.rLenS, rSum, wipe, tYes, exists_eq, exists_eq', rIxL, rIxT, rIxS, exists_and_right, gt_iff_lt, not_true_eq_false, not_false_eq_true, Bool.not_true, Bool.not_false, decide_eq_true_eq, Nat.reduceSub, Nat.reduceAdd, List.append_assoc, tChain, tDIn, tDNotIn, sDDel, tAug, ipI, isIntD]
      exact q
theorem ok_is_number {f : Addr} {fd : FuncData} (D : Df K mg "is_number" s_is_number ["value"] f fd) (T : Bt K w mg T_FORMS T_SIGNS es n tL) {fb : Addr} {fdb : FuncData} (D_is_below : Df K mg "is_below" s_is_below ["value", "bound"] fb fdb) (G_is_below : FnOk P w K mg base CX0 1 fb fdb ["value", "bound"] spBelow) :
    FnOk P w K mg base CX0 2 f fd ["value"] (spD (fun _ => True) (belowD 10)) := by
  refine D.F.ok sc_is_number (fun vs H Q E h => ?_) (fun cdv A outer s H vs Q E hr h => ?_)
  · obtain ⟨v, d, rfl, _⟩ := h
    rfl
  · obtain ⟨v, d, rfl, hd, _, _, q⟩ := h
    refine ⟨_, (pss_one (ps_ret (pe_call G_is_below (hr.mono (by decide)) rfl D_is_below.g D_is_below.F.kp D_is_below.b .nil pass0 (pa_cons (pv 0) (pa_cons pe_int pa_nil))))), ?_⟩
    try simp (maxSteps := 1000000) only [tSeq, tIfS, tTest, tOp, tUn, tCB, tCons, tNil, tVar, tC, rI0, rI, rU, rEq, rNe, tRet, tRetN, tAsg, gName, gSub, tBM, tBM0, tNext, tB, tNot, tAnd, tOr, tIf, tCall, tDrop, tBreak, tCont, L2.start, tDGet, sDPut, tTup, tLst, tDNewK, tRevL, rCat, rAppend, rPop, rSetL, tAndV, tOrV, tNotV, tSl, tPart, tNoPart, tM1, gTup, gCons, gNil, cxK, cxnK, List.map_cons, List.map_nil, List.length_cons, List.length_nil, List.replicate, List.cons_append, List.nil_append, List.append_nil, List.set_cons_zero, List.set_cons_succ, List.getElem?_cons_zero, List.getElem?_cons_succ, Option.some.injEq, V.ref.injEq, V.int.injEq, V.str.injEq, V.bl.injEq, V.ty.injEq, exists_eq_left', exists_eq_left, exists_and_left, List.cons.injEq, and_true, true_and, sc_ii, sc_ss, sc_bb, sc_ni, sc_in, sc_is, sc_si, sc_nn, decide_true, decide_false, reduceCtorEq, Bool.false_eq_true, if_true, if_false, ite_true, ite_false, exists_const, eq_self, false_and, and_false, or_false, false_or, exists_false, Evl.rLenS, rSum, wipe, tYes, exists_eq, exists_eq', rIxL, rIxT, rIxS, exists_and_right, gt_iff_lt, not_true_eq_false, not_false_eq_true, Bool.not_true, Bool.not_false, decide_eq_true_eq, Nat.reduceSub, Nat.reduceAdd, List.append_assoc, tChain, tDIn, tDNotIn, sDDel, tAug, ipI]
    exact ⟨v, d, 10, rfl, hd, q H (Kp.refl _ _)⟩
/-- ahead of the i-th item of a row of data: what was told of those before stands in the new list -/
def AllIn {α : Type} (g : α → Bool) (ds : List α) (D : Addr) (H : Hp) (i : Nat) (H' : Hp) : Prop := H' D = some (.lst ((ds.take i).map fun d => V.bl (g d))) ∧ Kp [] H H'
theorem allIn_step {α : Type} {g : α → Bool} {ds : List α} {D : Addr} {H H1 H2 : Hp} {i : Nat} {d : α} (hn : H D = none) (h : AllIn g ds D H i H1) (k : Kp [] H1 H2) (e : ds[i]? = some d) (hl : ds.length ≤ 1000) :
    ∃ acc, H2 D = some (.lst acc) ∧ acc.length < sizeLine ∧ AllIn g ds D H (i + 1) (upd H2 D (.lst (acc ++ [V.bl (g d)]))) := by
  refine ⟨_, k _ _ not0 h.1, ?_, ?_, (h.2.trans k).wr hn⟩
  · rw [List.length_map, List.length_take]; exact smallL (by omega)
  · rw [upd_same, take_snocA e, List.map_append]; rfl
theorem allIn_end {α : Type} {K : PySem.W.Frag} {g : α → Bool} {ds : List α} {D : Addr} {H H1 : Hp} {Q : VK} (h : AllIn g ds D H ds.length H1) (q : Q (.bl (ds.all g)) H1) : rAll K [.ref D] H1 Q := by
  refine ⟨D, ds.map g, rfl, sq_l (h.1.trans ?_), ?_⟩
  · rw [List.take_length, List.map_map]; rfl
  · rw [all_take]; exact q
theorem ok_is_place {f : Addr} {fd : FuncData} (D : Df K mg "is_place" s_is_place ["part"] f fd) (T : Bt K w mg T_FORMS T_SIGNS es n tL) {fb : Addr} {fdb : FuncData} (D_is_name : Df K mg "is_name" s_is_name ["value"] fb fdb) (G_is_name : FnOk P w K mg base CX0 1 fb fdb ["value"] (spD (fun _ => True) nameD)) :
    FnOk P w K mg base CX0 2 f fd ["part"] (spD (fun _ => True) placeD) := by
  refine D.F.ok sc_is_place (fun vs H Q E h => ?_) (fun cdv A outer s H vs Q E hr h => ?_)
  · obtain ⟨v, d, rfl, _⟩ := h
    rfl
  · obtain ⟨v, d, rfl, hd, sz, _, q⟩ := h
    refine ⟨_, (pss_cons (ps_if (pt_val (pe_callB (id := "isinstance") (r := rIsi K) call_isi (by rfl) T.b_isinstance (by decide +kernel) (pa_cons (pv 0) (pa_cons (pe_bltn (v := .ty "tuple") (by rfl) T.b_tuple (by decide +kernel) rfl) pa_nil)))) (pss_one (ps_ret (pe_and (pe_cmpR op_eq (pe_callB (id := "len") (r := Evl.rLenS K) call_len_seq (by rfl) T.b_len PySem.boot_len (pa_cons (pv 0) pa_nil)) pe_int (nomark _)) (pe_one (pe_callB (id := "all") (r := rAll K) (cr_all rfl) (by rfl) T.b_all (by decide +kernel) (pa_cons (pe_lc (own := [("name", 1)]) (g := (gName 1)) (tt := tYes) rfl sc_is_place.nd (pi_tup (pv 0)) (blkOk_by (N := ["part", "name"]) (sc := defScope s_is_place) (by decide +kernel)) (fun _ _ _ _ _ => (pg_name (i := 1) sc_is_place.nd rfl (Or.inl rfl))) (fun _ _ _ _ _ => pts_nil) (fun _ _ _ _ _ => (pe_call G_is_name (hr.mono (by decide)) rfl D_is_name.g D_is_name.F.kp D_is_name.b .nil pass0 (pa_cons (pv 1) pa_nil)))) pa_nil)))))) pss_nil)
      (pss_one (ps_ret (pe_call G_is_name (hr.mono (by decide)) rfl D_is_name.g D_is_name.F.kp D_is_name.b .nil pass0 (pa_cons (pv 0) pa_nil))))), ?_⟩
    try simp (maxSteps := 1000000) only [tSeq, tIfS, tTest, tOp, tUn, tCB, tCons, tNil, tVar, tC, rI0, rI, rU, rEq, rNe, tRet, tRetN, tAsg, gName, gSub, tBM, tBM0, tNext, tB, tNot, tAnd, tOr, tIf, tCall, tDrop, tBreak, tCont, L2.start, tDGet, sDPut, tTup, tLst, tDNewK, tRevL, rCat, rAppend, rPop, rSetL, tAndV, tOrV, tNotV, tSl, tPart, tNoPart, tM1, gTup, gCons, gNil, cxK, cxnK, List.map_cons, List.map_nil, List.length_cons, List.length_nil, List.replicate, List.cons_append, List.nil_append, List.append_nil, List.set_cons_zero, List.set_cons_succ, List.getElem?_cons_zero, List.getElem?_cons_succ, Option.some.injEq, V.ref.injEq, V.int.injEq, V.str.injEq, V.bl.injEq, V.ty.injEq, exists_eq_left', exists_eq_left, exists_and_left, List.cons.injEq, and_true, true_and, sc_ii, sc_ss, sc_bb, sc_ni, sc_in, sc_is, sc_si, sc_nn, decide_true, decide_false, reduceCtorEq, Bool.false_eq_true, if_true, if_false, ite_true, ite_false, exists_const, eq_self, false_and, and_false, or_false, false_or, exists_false, Evl.rLenS, rSum, wipe, tYes, exists_eq, exists_eq', rIxL, rIxT, rIxS, exists_and_right, gt_iff_lt, not_true_eq_false, not_false_eq_true, Bool.not_true, Bool.not_false, decide_eq_true_eq, Nat.reduceSub, Nat.reduceAdd, List.append_assoc, tChain, tDIn, tDNotIn, sDDel, tAug, ipI]
    refine isi_Dtup hd ?_
    have hd0 := hd
    cases hd with
    | @tup a xs ds e ha =>
      try simp (maxSteps := 1000000) only [tSeq, tIfS, tTest, tOp, tUn, tCB, tCons, tNil, tVar, tC, rI0, rI, rU, rEq, rNe, tRet, tRetN, tAsg, gName, gSub, tBM, tBM0, tNext, tB, tNot, tAnd, tOr, tIf, tCall, tDrop, tBreak, tCont, L2.start, tDGet, sDPut, tTup, tLst, tDNewK, tRevL, rCat, rAppend, rPop, rSetL, tAndV, tOrV, tNotV, tSl, tPart, tNoPart, tM1, gTup, gCons, gNil, cxK, cxnK, List.map_cons, List.map_nil, List.length_cons, List.length_nil, List.replicate, List.cons_append, List.nil_append, List.append_nil, List.set_cons_zero, List.set_cons_succ, List.getElem?_cons_zero, List.getElem?_cons_succ, Option.some.injEq, V.ref.injEq, V.int.injEq, V.str.injEq, V.bl.injEq, V.ty.injEq, exists_eq_left', exists_eq_left, exists_and_left, List.cons.injEq, and_true, true_and, sc_ii, sc_ss, sc_bb, sc_ni, sc_in, sc_is, sc_si, sc_nn, decide_true, decide_false, reduceCtorEq, Bool.false_eq_true, if_true, if_false, ite_true, ite_false, exists_const, eq_self, false_and, and_false, or_false, false_or, exists_false, Evl.rLenS, rSum, wipe, tYes, exists_eq, exists_eq', rIxL, rIxT, rIxS, exists_and_right, gt_iff_lt, not_true_eq_false, not_false_eq_true, Bool.not_true, Bool.not_false, decide_eq_true_eq, Nat.reduceSub, Nat.reduceAdd, List.append_assoc, tChain, tDIn, tDNotIn, sDDel, tAug, ipI, isTupD]
      have hl := ha.len
      refine ⟨xs, .inr (sq_t e), ?_⟩
      rw [hl]
      have q' : ∀ H', Kp [] H H' → Q (.bl (ds.length == 2 && ds.all nameD)) H' := q
      by_cases h2 : ds.length = 2
      · have e2 : ((ds.length : Nat) : Int) = 2 := by omega
        rw [beq_iff_eq.mpr h2] at q'
        try simp (maxSteps := 1000000) only [tSeq, tIfS, tTest, tOp, tUn, tCB, tCons, tNil, tVar, tC, rI0, rI, rU, rEq, rNe, tRet, tRetN, tAsg, gName, gSub, tBM, tBM0, tNext, tB, tNot, tAnd, tOr, tIf, tCall, tDrop, tBreak, tCont, L2.start, tDGet, sDPut, tTup, tLst, tDNewK, tRevL, rCat, rAppend, rPop, rSetL, tAndV, tOrV, tNotV, tSl, tPart, tNoPart, tM1, gTup, gCons, gNil, cxK, cxnK, List.map_cons, List.map_nil, List.length_cons, List.length_nil, List.replicate, List.cons_append, List.nil_append, List.append_nil, List.set_cons_zero, List.set_cons_succ, List.getElem?_cons_zero, List.getElem?_cons_succ, Option.some.injEq, V.ref.injEq, V.int.injEq, V.str.injEq, V.bl.injEq, V.ty.injEq, exists_eq_left', exists_eq_left, exists_and_left, List.cons.injEq, and_true, true_and, sc_ii, sc_ss, sc_bb, sc_ni, sc_in, sc_is, sc_si, sc_nn, decide_true, decide_false, reduceCtorEq, Bool.false_eq_true, if_true, if_false, ite_true, ite_false, exists_const, eq_self, false_and, and_false, or_false, false_or, exists_false, Evl.rLenS, rSum, wipe, tYes, exists_eq, exists_eq', rIxL, rIxT, rIxS, exists_and_right, gt_iff_lt, not_true_eq_false, not_false_eq_true, Bool.not_true, Bool.not_false, decide_eq_true_eq, Nat.reduceSub, Nat.reduceAdd, List.append_assoc, tChain, tDIn, tDNotIn, sDDel, tAug, ipI, e2]
        refine ⟨.ref a, rfl, a, rfl, ⟨_, sq_t e⟩, fun o no => lc_tup (xs := xs) (AllIn nameD ds o H) ⟨upd_same, Kp.new no⟩ (fun i H1 _ h => h.2.tp not0 (sq_t e)) ?_ ?_⟩
        · rintro i x H1 hx h
          obtain ⟨d, ed, hdx⟩ := ha.get hx
          try simp (maxSteps := 1000000) only [tSeq, tIfS, tTest, tOp, tUn, tCB, tCons, tNil, tVar, tC, rI0, rI, rU, rEq, rNe, tRet, tRetN, tAsg, gName, gSub, tBM, tBM0, tNext, tB, tNot, tAnd, tOr, tIf, tCall, tDrop, tBreak, tCont, L2.start, tDGet, sDPut, tTup, tLst, tDNewK, tRevL, rCat, rAppend, rPop, rSetL, tAndV, tOrV, tNotV, tSl, tPart, tNoPart, tM1, gTup, gCons, gNil, cxK, cxnK, List.map_cons, List.map_nil, List.length_cons, List.length_nil, List.replicate, List.cons_append, List.nil_append, List.append_nil, List.set_cons_zero, List.set_cons_succ, List.getElem?_cons_zero, List.getElem?_cons_succ, Option.some.injEq, V.ref.injEq, V.int.injEq, V.str.injEq, V.bl.injEq, V.ty.injEq, exists_eq_left', exists_eq_left, exists_and_left, List.cons.injEq, and_true, true_and, sc_ii, sc_ss, sc_bb, sc_ni, sc_in, sc_is, sc_si, sc_nn, decide_true, decide_false, reduceCtorEq, Bool.false_eq_true, if_true, if_false, ite_true, ite_false, exists_const, eq_self, false_and, and_false, or_false, false_or, exists_false, Evl.rLenS, rSum, wipe, tYes, exists_eq, exists_eq', rIxL, rIxT, rIxS, exists_and_right, gt_iff_lt, not_true_eq_false, not_false_eq_true, Bool.not_true, Bool.not_false, decide_eq_true_eq, Nat.reduceSub, Nat.reduceAdd, List.append_assoc, tChain, tDIn, tDNotIn, sDDel, tAug, ipI]
          refine ⟨x, d, rfl, hdx.kp h.2, szAll_mem sz d (List.mem_of_getElem? ed), True.intro, fun H2 k2 => allIn_step no h k2 ed (by omega)⟩
        · intro H1 h
          rw [hl] at h
          exact allIn_end h (q' _ h.2)
      · have e2 : ((ds.length : Nat) : Int) ≠ 2 := by omega
        rw [beq_eq_false_iff_ne.mpr h2] at q'
        try simp (maxSteps := 1000000) only [tSeq, tIfS, tTest, tOp, tUn, tCB, tCons, tNil, tVar, tC, rI0, rI, rU, rEq, rNe, tRet, tRetN, tAsg, gName, gSub, tBM, tBM0, tNext, tB, tNot, tAnd, tOr, tIf, tCall, tDrop, tBreak, tCont, L2.start, tDGet, sDPut, tTup, tLst, tDNewK, tRevL, rCat, rAppend, rPop, rSetL, tAndV, tOrV, tNotV, tSl, tPart, tNoPart, tM1, gTup, gCons, gNil, cxK, cxnK, List.map_cons, List.map_nil, List.length_cons, List.length_nil, List.replicate, List.cons_append, List.nil_append, List.append_nil, List.set_cons_zero, List.set_cons_succ, List.getElem?_cons_zero, List.getElem?_cons_succ, Option.some.injEq, V.ref.injEq, V.int.injEq, V.str.injEq, V.bl.injEq, V.ty.injEq, exists_eq_left', exists_eq_left, exists_and_left, List.cons.injEq, and_true, true_and, sc_ii, sc_ss, sc_bb, sc_ni, sc_in, sc_is, sc_si, sc_nn, decide_true, decide_false, reduceCtorEq, Bool.false_eq_true, if_true, if_false, ite_true, ite_false, exists_const, eq_self, false_and, and_false, or_false, false_or, exists_false, Evl.rLenS, rSum, wipe, tYes, exists_eq, exists_eq', rIxL, rIxT, rIxS, exists_and_right, gt_iff_lt, not_true_eq_false, not_false_eq_true, Bool.not_true, Bool.not_false, decide_eq_true_eq, Nat.reduceSub, Nat.reduceAdd, List.append_assoc, tChain, tDIn, tDNotIn, sDDel, tAug, ipI, e2]
        exact q' _ (Kp.refl _ _)
    | _ =>
      try simp (maxSteps := 1000000) only [tSeq, tIfS, tTest, tOp, tUn, tCB, tCons, tNil, tVar, tC, rI0, rI, rU, rEq, rNe, tRet, tRetN, tAsg, gName, gSub, tBM, tBM0, tNext, tB, tNot, tAnd, tOr, tIf, tCall, tDrop, tBreak, tCont, L2.start, tDGet, sDPut, tTup, tLst, tDNewK, tRevL, rCat, rAppend, rPop, rSetL, tAndV, tOrV, tNotV, tSl, tPart, tNoPart, tM1, gTup, gCons, gNil, cxK, cxnK, List.map_cons, List.map_nil, List.length_cons, List.length_nil, List.replicate, List.cons_append, List.nil_append, List.append_nil, List.set_cons_zero, List.set_cons_succ, List.getElem?_cons_zero, List.getElem?_cons_succ, Option.some.injEq, V.ref.injEq, V.int.injEq, V.str.injEq, V.bl.injEq, V.ty.injEq, exists_eq_left', exists_eq_left, exists_and_left, List.cons.injEq, and_true, true_and, sc_ii, sc_ss, sc_bb, sc_ni, sc_in, sc_is, sc_si, sc_nn, decide_true, decide_false, reduceCtorEq, Bool.false_eq_true, if_true, if_false, ite_true, ite_false, exists_const, eq_self, false_and, and_false, or_false, false_or, exists_false, Evl.rLenS, rSum, wipe, tYes, exists_eq, exists_eq', rIxL, rIxT, rIxS, exists_and_right, gt_iff_lt, not_true_eq_false, not_false_eq_true, Bool.not_true, Bool.not_false, decide_eq_true_eq, Nat.reduceSub, Nat.reduceAdd, List.append_assoc, tChain, tDIn, tDNotIn, sDDel, tAug, ipI, isTupD]
      exact ⟨_, _, rfl, hd0, sz, True.intro, q⟩
theorem ok_is_worth {f : Addr} {fd : FuncData} (D : Df K mg "is_worth" s_is_worth ["part"] f fd) (T : Bt K w mg T_FORMS T_SIGNS es n tL) {fb : Addr} {fdb : FuncData} (D_is_name : Df K mg "is_name" s_is_name ["value"] fb fdb) (G_is_name : FnOk P w K mg base CX0 1 fb fdb ["value"] (spD (fun _ => True) nameD))
    {fm : Addr} {fdm : FuncData} (D_is_number : Df K mg "is_number" s_is_number ["value"] fm fdm) (G_is_number : FnOk P w K mg base CX0 2 fm fdm ["value"] (spD (fun _ => True) (belowD 10))) : FnOk P w K mg base CX0 3 f fd ["part"] (spD (fun _ => True) worthD) := by
  refine D.F.ok sc_is_worth (fun vs H Q E h => ?_) (fun cdv A outer s H vs Q E hr h => ?_)
  · obtain ⟨v, d, rfl, _⟩ := h
    rfl
  · obtain ⟨v, d, rfl, hd, sz, _, q⟩ := h
    refine ⟨_, (pss_cons (ps_if (PW.pt (pw_or (pt_not (pt_val (pe_callB (id := "isinstance") (r := rIsi K) call_isi (by rfl) T.b_isinstance (by decide +kernel) (pa_cons (pv 0) (pa_cons (pe_bltn (v := .ty "tuple") (by rfl) T.b_tuple (by decide +kernel) rfl) pa_nil))))) (pw_or1 (pt_not (pt_chain op_le op_le pe_int (pe_callB (id := "len") (r := Evl.rLenS K) call_len_seq (by rfl) T.b_len PySem.boot_len (pa_cons (pv 0) pa_nil)) pe_int))))) (pss_one (ps_ret pe_bl)) pss_nil)
      (pss_one (ps_ret (pe_callB (id := "all") (r := rAll K) (cr_all rfl) (by rfl) T.b_all (by decide +kernel) (pa_cons (pe_lc (own := [("item", 1)]) (g := (gName 1)) (tt := tYes) rfl sc_is_worth.nd (pi_tup (pv 0)) (blkOk_by (N := ["part", "item"]) (sc := defScope s_is_worth) (by decide +kernel)) (fun _ _ _ _ _ => (pg_name (i := 1) sc_is_worth.nd rfl (Or.inl rfl))) (fun _ _ _ _ _ => pts_nil) (fun _ _ _ _ _ => (pe_or (pe_call G_is_name (hr.mono (by decide)) rfl D_is_name.g D_is_name.F.kp D_is_name.b .nil pass0 (pa_cons (pv 1) pa_nil)) (pe_one (pe_call G_is_number (hr.mono (by decide)) rfl D_is_number.g D_is_number.F.kp D_is_number.b .nil pass0 (pa_cons (pv 1) pa_nil)))))) pa_nil))))), ?_⟩
    try simp (maxSteps := 1000000) only [tSeq, tIfS, tTest, tOp, tUn, tCB, tCons, tNil, tVar, tC, rI0, rI, rU, rEq, rNe, tRet, tRetN, tAsg, gName, gSub, tBM, tBM0, tNext, tB, tNot, tAnd, tOr, tIf, tCall, tDrop, tBreak, tCont, L2.start, tDGet, sDPut, tTup, tLst, tDNewK, tRevL, rCat, rAppend, rPop, rSetL, tAndV, tOrV, tNotV, tSl, tPart, tNoPart, tM1, gTup, gCons, gNil, cxK, cxnK, List.map_cons, List.map_nil, List.length_cons, List.length_nil, List.replicate, List.cons_append, List.nil_append, List.append_nil, List.set_cons_zero, List.set_cons_succ, List.getElem?_cons_zero, List.getElem?_cons_succ, Option.some.injEq, V.ref.injEq, V.int.injEq, V.str.injEq, V.bl.injEq, V.ty.injEq, exists_eq_left', exists_eq_left, exists_and_left, List.cons.injEq, and_true, true_and, sc_ii, sc_ss, sc_bb, sc_ni, sc_in, sc_is, sc_si, sc_nn, decide_true, decide_false, reduceCtorEq, Bool.false_eq_true, if_true, if_false, ite_true, ite_false, exists_const, eq_self, false_and, and_false, or_false, false_or, exists_false, Evl.rLenS, rSum, wipe, tYes, exists_eq, exists_eq', rIxL, rIxT, rIxS, exists_and_right, gt_iff_lt, not_true_eq_false, not_false_eq_true, Bool.not_true, Bool.not_false, decide_eq_true_eq, Nat.reduceSub, Nat.reduceAdd, List.append_assoc, tChain, tDIn, tDNotIn, sDDel, tAug, ipI]
    refine isi_Dtup hd ?_
    have hd0 := hd
    cases hd with
    | @tup a xs ds e ha =>
      try simp (maxSteps := 1000000) only [tSeq, tIfS, tTest, tOp, tUn, tCB, tCons, tNil, tVar, tC, rI0, rI, rU, rEq, rNe, tRet, tRetN, tAsg, gName, gSub, tBM, tBM0, tNext, tB, tNot, tAnd, tOr, tIf, tCall, tDrop, tBreak, tCont, L2.start, tDGet, sDPut, tTup, tLst, tDNewK, tRevL, rCat, rAppend, rPop, rSetL, tAndV, tOrV, tNotV, tSl, tPart, tNoPart, tM1, gTup, gCons, gNil, cxK, cxnK, List.map_cons, List.map_nil, List.length_cons, List.length_nil, List.replicate, List.cons_append, List.nil_append, List.append_nil, List.set_cons_zero, List.set_cons_succ, List.getElem?_cons_zero, List.getElem?_cons_succ, Option.some.injEq, V.ref.injEq, V.int.injEq, V.str.injEq, V.bl.injEq, V.ty.injEq, exists_eq_left', exists_eq_left, exists_and_left, List.cons.injEq, and_true, true_and, sc_ii, sc_ss, sc_bb, sc_ni, sc_in, sc_is, sc_si, sc_nn, decide_true, decide_false, reduceCtorEq, Bool.false_eq_true, if_true, if_false, ite_true, ite_false, exists_const, eq_self, false_and, and_false, or_false, false_or, exists_false, Evl.rLenS, rSum, wipe, tYes, exists_eq, exists_eq', rIxL, rIxT, rIxS, exists_and_right, gt_iff_lt, not_true_eq_false, not_false_eq_true, Bool.not_true, Bool.not_false, decide_eq_true_eq, Nat.reduceSub, Nat.reduceAdd, List.append_assoc, tChain, tDIn, tDNotIn, sDDel, tAug, ipI, isTupD]
      have hl := ha.len
      refine ⟨xs, .inr (sq_t e), ?_⟩
      rw [hl]
      have q' : ∀ H', Kp [] H H' → Q (.bl (decide (1 ≤ ds.length) && (decide (ds.length ≤ 3) && ds.all fun d => nameD d || belowD 10 d))) H' := q
      by_cases h1 : 1 ≤ ds.length
      · by_cases h3 : ds.length ≤ 3
        · have e1 : (1 : Int) ≤ (ds.length : Nat) := by omega
          have e3 : ((ds.length : Nat) : Int) ≤ 3 := by omega
          rw [decide_eq_true h1, decide_eq_true h3] at q'
          try simp (maxSteps := 1000000) only [tSeq, tIfS, tTest, tOp, tUn, tCB, tCons, tNil, tVar, tC, rI0, rI, rU, rEq, rNe, tRet, tRetN, tAsg, gName, gSub, tBM, tBM0, tNext, tB, tNot, tAnd, tOr, tIf, tCall, tDrop, tBreak, tCont, L2.start, tDGet, sDPut, tTup, tLst, tDNewK, tRevL, rCat, rAppend, rPop, rSetL, tAndV, tOrV, tNotV, tSl, tPart, tNoPart, tM1, gTup, gCons, gNil, cxK, cxnK, List.map_cons, List.map_nil, List.length_cons, List.length_nil, List.replicate, List.cons_append, List.nil_append, List.append_nil, List.set_cons_zero, List.set_cons_succ, List.getElem?_cons_zero, List.getElem?_cons_succ, Option.some.injEq, V.ref.injEq, V.int.injEq, V.str.injEq, V.bl.injEq, V.ty.injEq, exists_eq_left', exists_eq_left, exists_and_left, List.cons.injEq, and_true, true_and, sc_ii, sc_ss, sc_bb, sc_ni, sc_in, sc_is, sc_si, sc_nn, decide_true, decide_false, reduceCtorEq, Bool.false_eq_true, if_true, if_false, ite_true, ite_false, exists_const, eq_self, false_and, and_false, or_false, false_or, exists_false, Evl.rLenS, rSum, wipe, tYes, exists_eq, exists_eq', rIxL, rIxT, rIxS, exists_and_right, gt_iff_lt, not_true_eq_false, not_false_eq_true, Bool.not_true, Bool.not_false, decide_eq_true_eq, Nat.reduceSub, Nat.reduceAdd, List.append_assoc, tChain, tDIn, tDNotIn, sDDel, tAug, ipI, e1, e3]
          refine ⟨.ref a, rfl, a, rfl, ⟨_, sq_t e⟩, fun o no => lc_tup (xs := xs) (AllIn (fun d => nameD d || belowD 10 d) ds o H) ⟨upd_same, Kp.new no⟩ (fun i H1 _ h => h.2.tp not0 (sq_t e)) ?_ ?_⟩
          · rintro i x H1 hx h
            obtain ⟨d, ed, hdx⟩ := ha.get hx
            have szd := szAll_mem sz d (List.mem_of_getElem? ed)
            try simp (maxSteps := 1000000) only [tSeq, tIfS, tTest, tOp, tUn, tCB, tCons, tNil, tVar, tC, rI0, rI, rU, rEq, rNe, tRet, tRetN, tAsg, gName, gSub, tBM, tBM0, tNext, tB, tNot, tAnd, tOr, tIf, tCall, tDrop, tBreak, tCont, L2.start, tDGet, sDPut, tTup, tLst, tDNewK, tRevL, rCat, rAppend, rPop, rSetL, tAndV, tOrV, tNotV, tSl, tPart, tNoPart, tM1, gTup, gCons, gNil, cxK, cxnK, List.map_cons, List.map_nil, List.length_cons, List.length_nil, List.replicate, List.cons_append, List.nil_append, List.append_nil, List.set_cons_zero, List.set_cons_succ, List.getElem?_cons_zero, List.getElem?_cons_succ, Option.some.injEq, V.ref.injEq, V.int.injEq, V.str.injEq, V.bl.injEq, V.ty.injEq, exists_eq_left', exists_eq_left, exists_and_left, List.cons.injEq, and_true, true_and, sc_ii, sc_ss, sc_bb, sc_ni, sc_in, sc_is, sc_si, sc_nn, decide_true, decide_false, reduceCtorEq, Bool.false_eq_true, if_true, if_false, ite_true, ite_false, exists_const, eq_self, false_and, and_false, or_false, false_or, exists_false, Evl.rLenS, rSum, wipe, tYes, exists_eq, exists_eq', rIxL, rIxT, rIxS, exists_and_right, gt_iff_lt, not_true_eq_false, not_false_eq_true, Bool.not_true, Bool.not_false, decide_eq_true_eq, Nat.reduceSub, Nat.reduceAdd, List.append_assoc, tChain, tDIn, tDNotIn, sDDel, tAug, ipI]
            refine ⟨x, d, rfl, hdx.kp h.2, szd, True.intro, fun H2 k2 => ?_⟩
            have go := fun H3 (k3 : Kp [] H1 H3) => allIn_step (g := fun d => nameD d || belowD 10 d) no h k3 ed (by omega)
            cases hn : nameD d with
            | true =>
              try simp (maxSteps := 1000000) only [tSeq, tIfS, tTest, tOp, tUn, tCB, tCons, tNil, tVar, tC, rI0, rI, rU, rEq, rNe, tRet, tRetN, tAsg, gName, gSub, tBM, tBM0, tNext, tB, tNot, tAnd, tOr, tIf, tCall, tDrop, tBreak, tCont, L2.start, tDGet, sDPut, tTup, tLst, tDNewK, tRevL, rCat, rAppend, rPop, rSetL, tAndV, tOrV, tNotV, tSl, tPart, tNoPart, tM1, gTup, gCons, gNil, cxK, cxnK, List.map_cons, List.map_nil, List.length_cons, List.length_nil, List.replicate, List.cons_append, List.nil_append, List.append_nil, List.set_cons_zero, List.set_cons_succ, List.getElem?_cons_zero, List.getElem?_cons_succ, Option.some.injEq, V.ref.injEq, V.int.injEq, V.str.injEq, V.bl.injEq, V.ty.injEq, exists_eq_left', exists_eq_left, exists_and_left, List.cons.injEq, and_true, true_and, sc_ii, sc_ss, sc_bb, sc_ni, sc_in, sc_is, sc_si, sc_nn, decide_true, decide_false, reduceCtorEq, Bool.false_eq_true, if_true, if_false, ite_true, ite_false, exists_const, eq_self, false_and, and_false, or_false, false_or, exists_false, Evl.rLenS, rSum, wipe, tYes, exists_eq, exists_eq', rIxL, rIxT, rIxS, exists_and_right, gt_iff_lt, not_true_eq_false, not_false_eq_true, Bool.not_true, Bool.not_false, decide_eq_true_eq, Nat.reduceSub, Nat.reduceAdd, List.append_assoc, tChain, tDIn, tDNotIn, sDDel, tAug, ipI]
              have z := go H2 k2
              rw [hn] at z
              exact z
            | false =>
              try simp (maxSteps := 1000000) only [tSeq, tIfS, tTest, tOp, tUn, tCB, tCons, tNil, tVar, tC, rI0, rI, rU, rEq, rNe, tRet, tRetN, tAsg, gName, gSub, tBM, tBM0, tNext, tB, tNot, tAnd, tOr, tIf, tCall, tDrop, tBreak, tCont, L2.start, tDGet, sDPut, tTup, tLst, tDNewK, tRevL, rCat, rAppend, rPop, rSetL, tAndV, tOrV, tNotV, tSl, tPart, tNoPart, tM1, gTup, gCons, gNil, cxK, cxnK, List.map_cons, List.map_nil, List.length_cons, List.length_nil, List.replicate, List.cons_append, List.nil_append, List.append_nil, List.set_cons_zero, List.set_cons_succ, List.getElem?_cons_zero, List.getElem?_cons_succ, Option.some.injEq, V.ref.injEq, V.int.injEq, V.str.injEq, V.bl.injEq, V.ty.injEq, exists_eq_left', exists_eq_left, exists_and_left, List.cons.injEq, and_true, true_and, sc_ii, sc_ss, sc_bb, sc_ni, sc_in, sc_is, sc_si, sc_nn, decide_true, decide_false, reduceCtorEq, Bool.false_eq_true, if_true, if_false, ite_true, ite_false, exists_const, eq_self, false_and, and_false, or_false, false_or, exists_false, Evl.rLenS, rSum, wipe, tYes, exists_eq, exists_eq', rIxL, rIxT, rIxS, exists_and_right, gt_iff_lt, not_true_eq_false, not_false_eq_true, Bool.not_true, Bool.not_false, decide_eq_true_eq, Nat.reduceSub, Nat.reduceAdd, List.append_assoc, tChain, tDIn, tDNotIn, sDDel, tAug, ipI]
              refine ⟨x, d, rfl, hdx.kp (h.2.trans k2), szd, True.intro, fun H3 k3 => ?_⟩
              have z := go H3 (k2.trans k3)
              rw [hn] at z
              exact z
          · intro H1 h
            rw [hl] at h
            exact allIn_end h (q' _ h.2)
        · have e1 : (1 : Int) ≤ (ds.length : Nat) := by omega
          have e3 : ¬ ((ds.length : Nat) : Int) ≤ 3 := by omega
          rw [decide_eq_true h1, decide_eq_false h3] at q'
          try simp (maxSteps := 1000000) only [tSeq, tIfS, tTest, tOp, tUn, tCB, tCons, tNil, tVar, tC, rI0, rI, rU, rEq, rNe, tRet, tRetN, tAsg, gName, gSub, tBM, tBM0, tNext, tB, tNot, tAnd, tOr, tIf, tCall, tDrop, tBreak, tCont, L2.start, tDGet, sDPut, tTup, tLst, tDNewK, tRevL, rCat, rAppend, rPop, rSetL, tAndV, tOrV, tNotV, tSl, tPart, tNoPart, tM1, gTup, gCons, gNil, cxK, cxnK, List.map_cons, List.map_nil, List.length_cons, List.length_nil, List.replicate, List.cons_append, List.nil_append, List.append_nil, List.set_cons_zero, List.set_cons_succ, List.getElem?_cons_zero, List.getElem?_cons_succ, Option.some.injEq, V.ref.injEq, V.int.injEq, V.str.injEq, V.bl.injEq, V.ty.injEq, exists_eq_left', exists_eq_left, exists_and_left, List.cons.injEq, and_true, true_and, sc_ii, sc_ss, sc_bb, sc_ni, sc_in, sc_is, sc_si, sc_nn, decide_true, decide_false, reduceCtorEq, Bool.false_eq_true, if_true, if_false, ite_true, ite_false, exists_const, eq_self, false_and, and_false, or_false, false_or, exists_false, Evl.rLenS, rSum, wipe, tYes, exists_eq, exists_eq', rIxL, rIxT, rIxS, exists_and_right, gt_iff_lt, not_true_eq_false, not_false_eq_true, Bool.not_true, Bool.not_false, decide_eq_true_eq, Nat.reduceSub, Nat.reduceAdd, List.append_assoc, tChain, tDIn, tDNotIn, sDDel, tAug, ipI, e1, e3]
          exact q' _ (Kp.refl _ _)
      · have e1 : ¬ (1 : Int) ≤ (ds.length : Nat) := by omega
        rw [decide_eq_false h1] at q'
        try simp (maxSteps := 1000000) only [tSeq, tIfS, tTest, tOp, tUn, tCB, tCons, tNil, tVar, tC, rI0, rI, rU, rEq, rNe, tRet, tRetN, tAsg, gName, gSub, tBM, tBM0, tNext, tB, tNot, tAnd, tOr, tIf, tCall, tDrop, tBreak, tCont, L2.start, tDGet, sDPut, tTup, tLst, tDNewK, tRevL, rCat, rAppend, rPop, rSetL, tAndV, tOrV, tNotV, tSl, tPart, tNoPart, tM1, gTup, gCons, gNil, cxK, cxnK, List.map_cons, List.map_nil, List.length_cons, List.length_nil, List.replicate, List.cons_append, List.nil_append, List.append_nil, List.set_cons_zero, List.set_cons_succ, List.getElem?_cons_zero, List.getElem?_cons_succ, Option.some.injEq, V.ref.injEq, V.int.injEq, V.str.injEq, V.bl.injEq, V.ty.injEq, exists_eq_left', exists_eq_left, exists_and_left, List.cons.injEq, and_true, true_and, sc_ii, sc_ss, sc_bb, sc_ni, sc_in, sc_is, sc_si, sc_nn, decide_true, decide_false, reduceCtorEq, Bool.false_eq_true, if_true, if_false, ite_true, ite_false, exists_const, eq_self, false_and, and_false, or_false, false_or, exists_false, Evl.rLenS, rSum, wipe, tYes, exists_eq, exists_eq', rIxL, rIxT, rIxS, exists_and_right, gt_iff_lt, not_true_eq_false, not_false_eq_true, Bool.not_true, Bool.not_false, decide_eq_true_eq, Nat.reduceSub, Nat.reduceAdd, List.append_assoc, tChain, tDIn, tDNotIn, sDDel, tAug, ipI, e1]
        exact q' _ (Kp.refl _ _)
    | _ =>
      try simp (maxSteps := 1000000) only [tSeq, tIfS, tTest, tOp, tUn, tCB, tCons, tNil, tVar, tC, rI0, rI, rU, rEq, rNe, tRet, tRetN, tAsg, gName, gSub, tBM, tBM0, tNext, tB, tNot, tAnd, tOr, tIf, tCall, tDrop, tBreak, tCont, L2.start, tDGet, sDPut, tTup, tLst, tDNewK, tRevL, rCat, rAppend, rPop, rSetL, tAndV, tOrV, tNotV, tSl, tPart, tNoPart, tM1, gTup, gCons, gNil, cxK, cxnK, List.map_cons, List.map_nil, List.length_cons, List.length_nil, List.replicate, List.cons_append, List.nil_append, List.append_nil, List.set_cons_zero, List.set_cons_succ, List.getElem?_cons_zero, List.getElem?_cons_succ, Option.some.injEq, V.ref.injEq, V.int.injEq, V.str.injEq, V.bl.injEq, V.ty.injEq, exists_eq_left', exists_eq_left, exists_and_left, List.cons.injEq, and_true, true_and, sc_ii, sc_ss, sc_bb, sc_ni, sc_in, sc_is, sc_si, sc_nn, decide_true, decide_false, reduceCtorEq, Bool.false_eq_true, if_true, if_false, ite_true, ite_false, exists_const, eq_self, false_and, and_false, or_false, false_or, exists_false, Evl.rLenS, rSum, wipe, tYes, exists_eq, exists_eq', rIxL, rIxT, rIxS, exists_and_right, gt_iff_lt, not_true_eq_false, not_false_eq_true, Bool.not_true, Bool.not_false, decide_eq_true_eq, Nat.reduceSub, Nat.reduceAdd, List.append_assoc, tChain, tDIn, tDNotIn, sDDel, tAug, ipI, isTupD]
      exact q _ (Kp.refl _ _)
theorem guardD_three {ds : List PyData} (h : ds.length ≠ 3) : guardD (.tuple ds) = false := by
  unfold guardD
  split
  · rename_i e
    cases e
    exact absurd rfl h
  · rfl
theorem three {α : Type} {l : List α} (h : l.length = 3) : ∃ a b c, l = [a, b, c] := by
  match l, h with
  | [a, b, c], _ => exact ⟨a, b, c, rfl⟩
theorem sc_flat {H : Hp} {v : V} {d : PyData} (h : Dq H v d) (sc : scD d = true) : flatV v = true := by
  cases h with
  | lst _ _ => cases sc
  | tup _ _ => cases sc
  | _ => rfl
theorem sg_in {H : Hp} {v : V} {d : PyData} (h : Dq H v d) (sc : scD d = true) : inV v [.str "=", .str "!", .str "<"] = sgD d := by
  cases h with
  | str z => rfl
  | lst _ _ => cases sc
  | tup _ _ => cases sc
  | _ => rfl
theorem ok_is_guard {f : Addr} {fd : FuncData} (D : Df K mg "is_guard" s_is_guard ["part"] f fd) (T : Bt K w mg T_FORMS T_SIGNS es n tL) {fb : Addr} {fdb : FuncData} (D_is_name : Df K mg "is_name" s_is_name ["value"] fb fdb) (G_is_name : FnOk P w K mg base CX0 1 fb fdb ["value"] (spD (fun _ => True) nameD))
    {fm : Addr} {fdm : FuncData} (D_is_worth : Df K mg "is_worth" s_is_worth ["part"] fm fdm) (G_is_worth : FnOk P w K mg base CX0 3 fm fdm ["part"] (spD (fun _ => True) worthD)) : FnOk P w K mg base CX0 4 f fd ["part"] (spD sgOk guardD) := by
  refine D.F.ok sc_is_guard (fun vs H Q E h => ?_) (fun cdv A outer s H vs Q E hr h => ?_)
  · obtain ⟨v, d, rfl, _⟩ := h
    rfl
  · obtain ⟨v, d, rfl, hd, sz, pre, q⟩ := h
    refine ⟨_, (pss_cons (ps_if (PW.pt (pw_or (pt_not (pt_val (pe_callB (id := "isinstance") (r := rIsi K) call_isi (by rfl) T.b_isinstance (by decide +kernel) (pa_cons (pv 0) (pa_cons (pe_bltn (v := .ty "tuple") (by rfl) T.b_tuple (by decide +kernel) rfl) pa_nil))))) (pw_or1 (pt_cmpR op_ne (pe_callB (id := "len") (r := Evl.rLenS K) call_len_seq (by rfl) T.b_len PySem.boot_len (pa_cons (pv 0) pa_nil)) pe_int (nomark _))))) (pss_one (ps_ret pe_bl)) pss_nil)
      (pss_cons (ps_asg (pv 0) (pg_tup (n := 3) (by rfl) (pgs_cons (pg_name (i := 1) sc_is_guard.nd rfl (Or.inl rfl)) (pgs_cons (pg_name (i := 2) sc_is_guard.nd rfl (Or.inl rfl)) (pgs_cons (pg_name (i := 3) sc_is_guard.nd rfl (Or.inl rfl)) pgs_nil)))))
      (pss_one (ps_ret (pe_and (pe_call G_is_name (hr.mono (by decide)) rfl D_is_name.g D_is_name.F.kp D_is_name.b .nil pass0 (pa_cons (pv 1) pa_nil)) (pe_and (pe_cmpR op_in_seq (pv 2) (pe_glob (v := .ref T_SIGNS) rfl T.c_SIGNS rfl) (by rfl)) (pe_one (pe_call G_is_worth (hr.mono (by decide)) rfl D_is_worth.g D_is_worth.F.kp D_is_worth.b .nil pass0 (pa_cons (pv 3) pa_nil))))))))), ?_⟩
    try simp (maxSteps := 1000000) only [tSeq, tIfS, tTest, tOp, tUn, tCB, tCons, tNil, tVar, tC, rI0, rI, rU, rEq, rNe, tRet, tRetN, tAsg, gName, gSub, tBM, tBM0, tNext, tB, tNot, tAnd, tOr, tIf, tCall, tDrop, tBreak, tCont, L2.start, tDGet, sDPut, tTup, tLst, tDNewK, tRevL, rCat, rAppend, rPop, rSetL, tAndV, tOrV, tNotV, tSl, tPart, tNoPart, tM1, gTup, gCons, gNil, cxK, cxnK, List.map_cons, List.map_nil, List.length_cons, List.length_nil, List.replicate, List.cons_append, List.nil_append, List.append_nil, List.set_cons_zero, List.set_cons_succ, List.getElem?_cons_zero, List.getElem?_cons_succ, Option.some.injEq, V.ref.injEq, V.int.injEq, V.str.injEq, V.bl.injEq, V.ty.injEq, exists_eq_left', exists_eq_left, exists_and_left, List.cons.injEq, and_true, true_and, sc_ii, sc_ss, sc_bb, sc_ni, sc_in, sc_is, sc_si, sc_nn, decide_true, decide_false, reduceCtorEq, Bool.false_eq_true, if_true, if_false, ite_true, ite_false, exists_const, eq_self, false_and, and_false, or_false, false_or, exists_false, Evl.rLenS, rSum, wipe, tYes, exists_eq, exists_eq', rIxL, rIxT, rIxS, exists_and_right, gt_iff_lt, not_true_eq_false, not_false_eq_true, Bool.not_true, Bool.not_false, decide_eq_true_eq, Nat.reduceSub, Nat.reduceAdd, List.append_assoc, tChain, tDIn, tDNotIn, sDDel, tAug, ipI]
    refine isi_Dtup hd ?_
    have hd0 := hd
    cases hd with
    | @tup a xs ds e ha =>
      try simp (maxSteps := 1000000) only [tSeq, tIfS, tTest, tOp, tUn, tCB, tCons, tNil, tVar, tC, rI0, rI, rU, rEq, rNe, tRet, tRetN, tAsg, gName, gSub, tBM, tBM0, tNext, tB, tNot, tAnd, tOr, tIf, tCall, tDrop, tBreak, tCont, L2.start, tDGet, sDPut, tTup, tLst, tDNewK, tRevL, rCat, rAppend, rPop, rSetL, tAndV, tOrV, tNotV, tSl, tPart, tNoPart, tM1, gTup, gCons, gNil, cxK, cxnK, List.map_cons, List.map_nil, List.length_cons, List.length_nil, List.replicate, List.cons_append, List.nil_append, List.append_nil, List.set_cons_zero, List.set_cons_succ, List.getElem?_cons_zero, List.getElem?_cons_succ, Option.some.injEq, V.ref.injEq, V.int.injEq, V.str.injEq, V.bl.injEq, V.ty.injEq, exists_eq_left', exists_eq_left, exists_and_left, List.cons.injEq, and_true, true_and, sc_ii, sc_ss, sc_bb, sc_ni, sc_in, sc_is, sc_si, sc_nn, decide_true, decide_false, reduceCtorEq, Bool.false_eq_true, if_true, if_false, ite_true, ite_false, exists_const, eq_self, false_and, and_false, or_false, false_or, exists_false, Evl.rLenS, rSum, wipe, tYes, exists_eq, exists_eq', rIxL, rIxT, rIxS, exists_and_right, gt_iff_lt, not_true_eq_false, not_false_eq_true, Bool.not_true, Bool.not_false, decide_eq_true_eq, Nat.reduceSub, Nat.reduceAdd, List.append_assoc, tChain, tDIn, tDNotIn, sDDel, tAug, ipI, isTupD]
      have hl := ha.len
      refine ⟨xs, .inr (sq_t e), ?_⟩
      rw [hl]
      by_cases h3 : ds.length = 3
      · obtain ⟨dl, dm, dw, rfl⟩ := three h3
        cases ha with
        | cons h1 ht =>
        cases ht with
        | cons hm ht =>
        cases ht with
        | cons h2 ht =>
        cases ht
        rename_i vl vm vw
        try simp (maxSteps := 1000000) only [tSeq, tIfS, tTest, tOp, tUn, tCB, tCons, tNil, tVar, tC, rI0, rI, rU, rEq, rNe, tRet, tRetN, tAsg, gName, gSub, tBM, tBM0, tNext, tB, tNot, tAnd, tOr, tIf, tCall, tDrop, tBreak, tCont, L2.start, tDGet, sDPut, tTup, tLst, tDNewK, tRevL, rCat, rAppend, rPop, rSetL, tAndV, tOrV, tNotV, tSl, tPart, tNoPart, tM1, gTup, gCons, gNil, cxK, cxnK, List.map_cons, List.map_nil, List.length_cons, List.length_nil, List.replicate, List.cons_append, List.nil_append, List.append_nil, List.set_cons_zero, List.set_cons_succ, List.getElem?_cons_zero, List.getElem?_cons_succ, Option.some.injEq, V.ref.injEq, V.int.injEq, V.str.injEq, V.bl.injEq, V.ty.injEq, exists_eq_left', exists_eq_left, exists_and_left, List.cons.injEq, and_true, true_and, sc_ii, sc_ss, sc_bb, sc_ni, sc_in, sc_is, sc_si, sc_nn, decide_true, decide_false, reduceCtorEq, Bool.false_eq_true, if_true, if_false, ite_true, ite_false, exists_const, eq_self, false_and, and_false, or_false, false_or, exists_false, Evl.rLenS, rSum, wipe, tYes, exists_eq, exists_eq', rIxL, rIxT, rIxS, exists_and_right, gt_iff_lt, not_true_eq_false, not_false_eq_true, Bool.not_true, Bool.not_false, decide_eq_true_eq, Nat.reduceSub, Nat.reduceAdd, List.append_assoc, tChain, tDIn, tDNotIn, sDDel, tAug, ipI]
        refine ⟨_, sq_t e, rfl, ?_⟩
        try simp (maxSteps := 1000000) only [tSeq, tIfS, tTest, tOp, tUn, tCB, tCons, tNil, tVar, tC, rI0, rI, rU, rEq, rNe, tRet, tRetN, tAsg, gName, gSub, tBM, tBM0, tNext, tB, tNot, tAnd, tOr, tIf, tCall, tDrop, tBreak, tCont, L2.start, tDGet, sDPut, tTup, tLst, tDNewK, tRevL, rCat, rAppend, rPop, rSetL, tAndV, tOrV, tNotV, tSl, tPart, tNoPart, tM1, gTup, gCons, gNil, cxK, cxnK, List.map_cons, List.map_nil, List.length_cons, List.length_nil, List.replicate, List.cons_append, List.nil_append, List.append_nil, List.set_cons_zero, List.set_cons_succ, List.getElem?_cons_zero, List.getElem?_cons_succ, Option.some.injEq, V.ref.injEq, V.int.injEq, V.str.injEq, V.bl.injEq, V.ty.injEq, exists_eq_left', exists_eq_left, exists_and_left, List.cons.injEq, and_true, true_and, sc_ii, sc_ss, sc_bb, sc_ni, sc_in, sc_is, sc_si, sc_nn, decide_true, decide_false, reduceCtorEq, Bool.false_eq_true, if_true, if_false, ite_true, ite_false, exists_const, eq_self, false_and, and_false, or_false, false_or, exists_false, Evl.rLenS, rSum, wipe, tYes, exists_eq, exists_eq', rIxL, rIxT, rIxS, exists_and_right, gt_iff_lt, not_true_eq_false, not_false_eq_true, Bool.not_true, Bool.not_false, decide_eq_true_eq, Nat.reduceSub, Nat.reduceAdd, List.append_assoc, tChain, tDIn, tDNotIn, sDDel, tAug, ipI]
        refine ⟨_, _, ⟨rfl, rfl⟩, _, _, rfl, _, _, rfl, rfl, ?_⟩
        refine ⟨_, dl, rfl, h1, szAll_mem sz dl (by simp), True.intro, fun H1 k1 => ?_⟩
        try simp (maxSteps := 1000000) only [tSeq, tIfS, tTest, tOp, tUn, tCB, tCons, tNil, tVar, tC, rI0, rI, rU, rEq, rNe, tRet, tRetN, tAsg, gName, gSub, tBM, tBM0, tNext, tB, tNot, tAnd, tOr, tIf, tCall, tDrop, tBreak, tCont, L2.start, tDGet, sDPut, tTup, tLst, tDNewK, tRevL, rCat, rAppend, rPop, rSetL, tAndV, tOrV, tNotV, tSl, tPart, tNoPart, tM1, gTup, gCons, gNil, cxK, cxnK, List.map_cons, List.map_nil, List.length_cons, List.length_nil, List.replicate, List.cons_append, List.nil_append, List.append_nil, List.set_cons_zero, List.set_cons_succ, List.getElem?_cons_zero, List.getElem?_cons_succ, Option.some.injEq, V.ref.injEq, V.int.injEq, V.str.injEq, V.bl.injEq, V.ty.injEq, exists_eq_left', exists_eq_left, exists_and_left, List.cons.injEq, and_true, true_and, sc_ii, sc_ss, sc_bb, sc_ni, sc_in, sc_is, sc_si, sc_nn, decide_true, decide_false, reduceCtorEq, Bool.false_eq_true, if_true, if_false, ite_true, ite_false, exists_const, eq_self, false_and, and_false, or_false, false_or, exists_false, Evl.rLenS, rSum, wipe, tYes, exists_eq, exists_eq', rIxL, rIxT, rIxS, exists_and_right, gt_iff_lt, not_true_eq_false, not_false_eq_true, Bool.not_true, Bool.not_false, decide_eq_true_eq, Nat.reduceSub, Nat.reduceAdd, List.append_assoc, tChain, tDIn, tDNotIn, sDDel, tAug, ipI]
        have q' : ∀ H', Kp [] H H' → Q (.bl (nameD dl && (sgD dm && worthD dw))) H' := by rw [gd3] at q; exact q
        cases hn : nameD dl with
        | false =>
          rw [hn] at q'
          exact q' _ k1
        | true =>
          rw [hn] at q'
          try simp (maxSteps := 1000000) only [tSeq, tIfS, tTest, tOp, tUn, tCB, tCons, tNil, tVar, tC, rI0, rI, rU, rEq, rNe, tRet, tRetN, tAsg, gName, gSub, tBM, tBM0, tNext, tB, tNot, tAnd, tOr, tIf, tCall, tDrop, tBreak, tCont, L2.start, tDGet, sDPut, tTup, tLst, tDNewK, tRevL, rCat, rAppend, rPop, rSetL, tAndV, tOrV, tNotV, tSl, tPart, tNoPart, tM1, gTup, gCons, gNil, cxK, cxnK, List.map_cons, List.map_nil, List.length_cons, List.length_nil, List.replicate, List.cons_append, List.nil_append, List.append_nil, List.set_cons_zero, List.set_cons_succ, List.getElem?_cons_zero, List.getElem?_cons_succ, Option.some.injEq, V.ref.injEq, V.int.injEq, V.str.injEq, V.bl.injEq, V.ty.injEq, exists_eq_left', exists_eq_left, exists_and_left, List.cons.injEq, and_true, true_and, sc_ii, sc_ss, sc_bb, sc_ni, sc_in, sc_is, sc_si, sc_nn, decide_true, decide_false, reduceCtorEq, Bool.false_eq_true, if_true, if_false, ite_true, ite_false, exists_const, eq_self, false_and, and_false, or_false, false_or, exists_false, Evl.rLenS, rSum, wipe, tYes, exists_eq, exists_eq', rIxL, rIxT, rIxS, exists_and_right, gt_iff_lt, not_true_eq_false, not_false_eq_true, Bool.not_true, Bool.not_false, decide_eq_true_eq, Nat.reduceSub, Nat.reduceAdd, List.append_assoc, tChain, tDIn, tDNotIn, sDDel, tAug, ipI]
          have sc : scD dm = true := pre hn
          have si := sg_in hm sc
          refine ⟨T_SIGNS, _, rfl, .inr (.inr T.sg), sc_flat hm sc, rfl, ?_⟩
          simp only [Bool.false_eq_true, if_false]
          rw [show inV vm (List.map V.str [Str.ofString "=", Str.ofString "!", Str.ofString "<"]) = sgD dm from si]
          refine ⟨_, rfl, ?_⟩
          cases hs : sgD dm with
          | false =>
            rw [hs] at q'
            exact q' _ k1
          | true =>
            rw [hs] at q'
            try simp (maxSteps := 1000000) only [tSeq, tIfS, tTest, tOp, tUn, tCB, tCons, tNil, tVar, tC, rI0, rI, rU, rEq, rNe, tRet, tRetN, tAsg, gName, gSub, tBM, tBM0, tNext, tB, tNot, tAnd, tOr, tIf, tCall, tDrop, tBreak, tCont, L2.start, tDGet, sDPut, tTup, tLst, tDNewK, tRevL, rCat, rAppend, rPop, rSetL, tAndV, tOrV, tNotV, tSl, tPart, tNoPart, tM1, gTup, gCons, gNil, cxK, cxnK, List.map_cons, List.map_nil, List.length_cons, List.length_nil, List.replicate, List.cons_append, List.nil_append, List.append_nil, List.set_cons_zero, List.set_cons_succ, List.getElem?_cons_zero, List.getElem?_cons_succ, Option.some.injEq, V.ref.injEq, V.int.injEq, V.str.injEq, V.bl.injEq, V.ty.injEq, exists_eq_left', exists_eq_left, exists_and_left, List.cons.injEq, and_true, true_and, sc_ii, sc_ss, sc_bb, sc_ni, sc_in, sc_is, sc_si, sc_nn, decide_true, decide_false, reduceCtorEq, Bool.false_eq_true, if_true, if_false, ite_true, ite_false, exists_const, eq_self, false_and, and_false, or_false, false_or, exists_false, Evl.rLenS, rSum, wipe, tYes, exists_eq, exists_eq', rIxL, rIxT, rIxS, exists_and_right, gt_iff_lt, not_true_eq_false, not_false_eq_true, Bool.not_true, Bool.not_false, decide_eq_true_eq, Nat.reduceSub, Nat.reduceAdd, List.append_assoc, tChain, tDIn, tDNotIn, sDDel, tAug, ipI]
            exact ⟨_, dw, rfl, h2.kp k1, szAll_mem sz dw (by simp), True.intro, fun H2 k2 => q' _ (k1.trans k2)⟩
      · rw [guardD_three h3] at q
        have e3 : ((ds.length : Nat) : Int) ≠ 3 := by omega
        try simp (maxSteps := 1000000) only [tSeq, tIfS, tTest, tOp, tUn, tCB, tCons, tNil, tVar, tC, rI0, rI, rU, rEq, rNe, tRet, tRetN, tAsg, gName, gSub, tBM, tBM0, tNext, tB, tNot, tAnd, tOr, tIf, tCall, tDrop, tBreak, tCont, L2.start, tDGet, sDPut, tTup, tLst, tDNewK, tRevL, rCat, rAppend, rPop, rSetL, tAndV, tOrV, tNotV, tSl, tPart, tNoPart, tM1, gTup, gCons, gNil, cxK, cxnK, List.map_cons, List.map_nil, List.length_cons, List.length_nil, List.replicate, List.cons_append, List.nil_append, List.append_nil, List.set_cons_zero, List.set_cons_succ, List.getElem?_cons_zero, List.getElem?_cons_succ, Option.some.injEq, V.ref.injEq, V.int.injEq, V.str.injEq, V.bl.injEq, V.ty.injEq, exists_eq_left', exists_eq_left, exists_and_left, List.cons.injEq, and_true, true_and, sc_ii, sc_ss, sc_bb, sc_ni, sc_in, sc_is, sc_si, sc_nn, decide_true, decide_false, reduceCtorEq, Bool.false_eq_true, if_true, if_false, ite_true, ite_false, exists_const, eq_self, false_and, and_false, or_false, false_or, exists_false, Evl.rLenS, rSum, wipe, tYes, exists_eq, exists_eq', rIxL, rIxT, rIxS, exists_and_right, gt_iff_lt, not_true_eq_false, not_false_eq_true, Bool.not_true, Bool.not_false, decide_eq_true_eq, Nat.reduceSub, Nat.reduceAdd, List.append_assoc, tChain, tDIn, tDNotIn, sDDel, tAug, ipI, e3]
        exact q _ (Kp.refl _ _)
    | _ =>
      try simp (maxSteps := 1000000) only [tSeq, tIfS, tTest, tOp, tUn, tCB, tCons, tNil, tVar, tC, rI0, rI, rU, rEq, rNe, tRet, tRetN, tAsg, gName, gSub, tBM, tBM0, tNext, tB, tNot, tAnd, tOr, tIf, tCall, tDrop, tBreak, tCont, L2.start, tDGet, sDPut, tTup, tLst, tDNewK, tRevL, rCat, rAppend, rPop, rSetL, tAndV, tOrV, tNotV, tSl, tPart, tNoPart, tM1, gTup, gCons, gNil, cxK, cxnK, List.map_cons, List.map_nil, List.length_cons, List.length_nil, List.replicate, List.cons_append, List.nil_append, List.append_nil, List.set_cons_zero, List.set_cons_succ, List.getElem?_cons_zero, List.getElem?_cons_succ, Option.some.injEq, V.ref.injEq, V.int.injEq, V.str.injEq, V.bl.injEq, V.ty.injEq, exists_eq_left', exists_eq_left, exists_and_left, List.cons.injEq, and_true, true_and, sc_ii, sc_ss, sc_bb, sc_ni, sc_in, sc_is, sc_si, sc_nn, decide_true, decide_false, reduceCtorEq, Bool.false_eq_true, if_true, if_false, ite_true, ite_false, exists_const, eq_self, false_and, and_false, or_false, false_or, exists_false, Evl.rLenS, rSum, wipe, tYes, exists_eq, exists_eq', rIxL, rIxT, rIxS, exists_and_right, gt_iff_lt, not_true_eq_false, not_false_eq_true, Bool.not_true, Bool.not_false, decide_eq_true_eq, Nat.reduceSub, Nat.reduceAdd, List.append_assoc, tChain, tDIn, tDNotIn, sDDel, tAug, ipI, isTupD]
      exact q _ (Kp.refl _ _)

def spPart : Sp := fun vs H Q _ => ∃ (v : V) (d : PyData) (r : Str), vs = [v, .str r] ∧ Dq H v d ∧ szD d = true ∧ (r = "guard" → sgOk d) ∧ ∀ H', Kp [] H H' → Q (.bl (partD r d)) H'
theorem ok_is_part {f : Addr} {fd : FuncData} (D : Df K mg "is_part" s_is_part ["part", "role"] f fd) (T : Bt K w mg T_FORMS T_SIGNS es n tL) {fa : Addr} {fda : FuncData} (D_is_place : Df K mg "is_place" s_is_place ["part"] fa fda) (G_is_place : FnOk P w K mg base CX0 2 fa fda ["part"] (spD (fun _ => True) placeD))
    {fm : Addr} {fdm : FuncData} (D_is_worth : Df K mg "is_worth" s_is_worth ["part"] fm fdm) (G_is_worth : FnOk P w K mg base CX0 3 fm fdm ["part"] (spD (fun _ => True) worthD)) {fg : Addr} {fdg : FuncData} (D_is_guard : Df K mg "is_guard" s_is_guard ["part"] fg fdg) (G_is_guard : FnOk P w K mg base CX0 4 fg fdg ["part"] (spD sgOk guardD))
    {fb : Addr} {fdb : FuncData} (D_is_name : Df K mg "is_name" s_is_name ["value"] fb fdb) (G_is_name : FnOk P w K mg base CX0 1 fb fdb ["value"] (spD (fun _ => True) nameD)) : FnOk P w K mg base CX0 5 f fd ["part", "role"] spPart := by
  refine D.F.ok sc_is_part (fun vs H Q E h => ?_) (fun cdv A outer s H vs Q E hr h => ?_)
  · obtain ⟨v, d, r, rfl, _⟩ := h
    rfl
  · obtain ⟨v, d, r, rfl, hd, sz, pre, q⟩ := h
    refine ⟨_, (pss_cons (ps_if (pt_cmpR op_eq (pv 1) pe_str (nomark _)) (pss_one (ps_ret (pe_call G_is_place (hr.mono (by decide)) rfl D_is_place.g D_is_place.F.kp D_is_place.b .nil pass0 (pa_cons (pv 0) pa_nil)))) pss_nil)
      (pss_cons (ps_if (pt_cmpR op_eq (pv 1) pe_str (nomark _)) (pss_one (ps_ret (pe_call G_is_worth (hr.mono (by decide)) rfl D_is_worth.g D_is_worth.F.kp D_is_worth.b .nil pass0 (pa_cons (pv 0) pa_nil)))) pss_nil)
      (pss_cons (ps_if (pt_cmpR op_eq (pv 1) pe_str (nomark _)) (pss_one (ps_ret (pe_or (pe_cmpR op_isN (pv 0) pe_non (nomark _)) (pe_one (pe_call G_is_guard (hr.mono (by decide)) rfl D_is_guard.g D_is_guard.F.kp D_is_guard.b .nil pass0 (pa_cons (pv 0) pa_nil)))))) pss_nil)
      (pss_one (ps_ret (pe_call G_is_name (hr.mono (by decide)) rfl D_is_name.g D_is_name.F.kp D_is_name.b .nil pass0 (pa_cons (pv 0) pa_nil))))))), ?_⟩
    unfold partD at q
    try simp (maxSteps := 1000000) only [tSeq, tIfS, tTest, tOp, tUn, tCB, tCons, tNil, tVar, tC, rI0, rI, rU, rEq, rNe, tRet, tRetN, tAsg, gName, gSub, tBM, tBM0, tNext, tB, tNot, tAnd, tOr, tIf, tCall, tDrop, tBreak, tCont, L2.start, tDGet, sDPut, tTup, tLst, tDNewK, tRevL, rCat, rAppend, rPop, rSetL, tAndV, tOrV, tNotV, tSl, tPart, tNoPart, tM1, gTup, gCons, gNil, cxK, cxnK, List.map_cons, List.map_nil, List.length_cons, List.length_nil, List.replicate, List.cons_append, List.nil_append, List.append_nil, List.set_cons_zero, List.set_cons_succ, List.getElem?_cons_zero, List.getElem?_cons_succ, Option.some.injEq, V.ref.injEq, V.int.injEq, V.str.injEq, V.bl.injEq, V.ty.injEq, exists_eq_left', exists_eq_left, exists_and_left, List.cons.injEq, and_true, true_and, sc_ii, sc_ss, sc_bb, sc_ni, sc_in, sc_is, sc_si, sc_nn, decide_true, decide_false, reduceCtorEq, Bool.false_eq_true, if_true, if_false, ite_true, ite_false, exists_const, eq_self, false_and, and_false, or_false, false_or, exists_false, Evl.rLenS, rSum, wipe, tYes, exists_eq, exists_eq', rIxL, rIxT, rIxS, exists_and_right, gt_iff_lt, not_true_eq_false, not_false_eq_true, Bool.not_true, Bool.not_false, decide_eq_true_eq, Nat.reduceSub, Nat.reduceAdd, List.append_assoc, tChain, tDIn, tDNotIn, sDDel, tAug, ipI]
    by_cases e1 : r = "place"
    · rw [if_pos e1] at q
      rw [if_pos e1]
      exact ⟨_, d, rfl, hd, sz, True.intro, q⟩
    rw [if_neg e1] at q
    rw [if_neg e1]
    by_cases e2 : r = "worth"
    · rw [if_pos e2] at q
      rw [if_pos e2]
      exact ⟨_, d, rfl, hd, sz, True.intro, q⟩
    rw [if_neg e2] at q
    rw [if_neg e2]
    by_cases e3 : r = "guard"
    · rw [if_pos e3] at q
      rw [if_pos e3]
      have pre' := pre e3
      have hd0 := hd
      cases hd with
      | non =>
        rw [if_pos rfl]
        exact q _ (Kp.refl _ _)
      | _ =>
        rw [if_neg (fun z => by cases z)]
        exact ⟨_, _, rfl, hd0, sz, pre', q⟩
    rw [if_neg e3] at q
    rw [if_neg e3]
    exact ⟨_, d, rfl, hd, sz, True.intro, q⟩

theorem walk_zipT {K : PySem.W.Frag} {a b : Addr} {xs ys : List V} {n : Nat} (hn : n = min xs.length ys.length) : Walk (RZ.ItzT K a b) n (fun H => SqT K H a xs ∧ SqT K H b ys) (YPair (fun i => xs[i]?) (fun i => ys[i]?)) where
  goes := fun i H hi h => ⟨xs, ys, _, _, h.1, h.2, List.getElem?_eq_getElem (show i < xs.length by omega), List.getElem?_eq_getElem (show i < ys.length by omega)⟩
  stops := fun H h => ⟨xs, ys, h.1, h.2, by omega⟩
  yields := fun i H x H' hi h y => by
    obtain ⟨T, u, v, e, hn, e', h1, h2⟩ := y
    exact ⟨T, u, v, e, hn, e', h1 xs h.1, h2 ys h.2⟩
theorem cut1 {v : V} {ps : List V} : cutV (v :: ps) (some 1) none = ps := by
  unfold cutV
  have e : HT.sIx (v :: ps).length 0 (some 1) = 1 := by
    have z := HT.sIx_nat (v :: ps).length 0 1
    rw [List.length_cons] at z ⊢
    exact z.trans (by omega)
  rw [e, HT.sIx_none, List.drop_succ_cons, List.drop_zero, List.length_cons]
  exact List.take_of_length_le (by omega)
theorem cut1_ne {v : V} {ps : List V} {A : Prop} : ¬ (HT.sIx (v :: ps).length 0 (some 1) = 0 ∧ A) := by
  have z := HT.sIx_nat (v :: ps).length 0 1
  rw [List.length_cons] at z ⊢
  rintro ⟨h, _⟩
  have z' : HT.sIx (ps.length + 1) 0 (some 1) = min 1 (ps.length + 1) := z
  omega
def spStep : Sp := fun vs H Q _ => ∃ (a : Addr) (x : Str) (ps : List V) (ds : List PyData) (rs : List Str), vs = [.ref a] ∧ H a = some (.tup (.str x :: ps)) ∧ DqAll H ps ds ∧ szAll ds = true ∧ (x, rs) ∈ forms ∧ (∀ d ∈ ds, sgOk d) ∧ ds.length ≤ 1000 ∧ ∀ H', Kp [] H H' → Q (.bl (stepD rs ds)) H'
theorem ok_is_step {f : Addr} {fd : FuncData} (D : Df K mg "is_step" s_is_step ["step"] f fd) (T : Bt K w mg T_FORMS T_SIGNS es n tL) {fb : Addr} {fdb : FuncData} (D_is_part : Df K mg "is_part" s_is_part ["part", "role"] fb fdb) (G_is_part : FnOk P w K mg base CX0 5 fb fdb ["part", "role"] spPart) : FnOk P w K mg base CX0 6 f fd ["step"] spStep := by
  refine D.F.ok sc_is_step (fun vs H Q E h => ?_) (fun cdv A outer s H vs Q E hr h => ?_)
  · obtain ⟨a, _, _, _, _, rfl, _⟩ := h
    rfl
  · obtain ⟨a, x, ps, ds, rs, rfl, e, hd, sz, hf, sg, hl, q⟩ := h
    have hu := hu_of hr
    obtain ⟨R, hR, wR⟩ := T.fm _ hf
    have len := hd.len
    refine ⟨_, (pss_cons (ps_if (PW.pt (pw_or (pt_not (pt_val (pe_callB (id := "isinstance") (r := rIsi K) call_isi (by rfl) T.b_isinstance (by decide +kernel) (pa_cons (pv 0) (pa_cons (pe_bltn (v := .ty "tuple") (by rfl) T.b_tuple (by decide +kernel) rfl) pa_nil))))) (pw_or (pt_not (pt_truth (pv 0) (by intro _; rfl))) (pw_or (pt_not (pt_val (pe_callB (id := "isinstance") (r := rIsi K) call_isi (by rfl) T.b_isinstance (by decide +kernel) (pa_cons (pe_ix (r := rIxT K) ix_tup (pv 0) pe_int (fun _ _ => rfl)) (pa_cons (pe_bltn (v := .ty "str") (by rfl) T.b_str (by decide +kernel) rfl) pa_nil))))) (pw_or1 (pt_cmpR (op_notIn_kd T.DF) (pe_ix (r := rIxT K) ix_tup (pv 0) pe_int (fun _ _ => rfl)) (pe_glob (v := .ref T_FORMS) rfl T.c_FORMS rfl) (by rfl))))))) (pss_one (ps_ret pe_bl)) pss_nil)
      (pss_cons (ps_set (i := 1) sc_is_step.nd rfl (Or.inl rfl) (pe_ix (r := rIxD K w) ix_kdict (pe_glob (v := .ref T_FORMS) rfl T.c_FORMS rfl) (pe_ix (r := rIxT K) ix_tup (pv 0) pe_int (fun _ _ => rfl)) (fun _ _ => rfl)))
      (pss_cons (ps_if (pt_cmpR op_ne (pe_callB (id := "len") (r := Evl.rLenS K) call_len_seq (by rfl) T.b_len PySem.boot_len (pa_cons (pv 0) pa_nil)) (pe_op op_add (pe_callB (id := "len") (r := Evl.rLenS K) call_len_seq (by rfl) T.b_len PySem.boot_len (pa_cons (pv 1) pa_nil)) pe_int) (nomark _)) (pss_one (ps_ret pe_bl)) pss_nil)
      (pss_one (ps_ret (pe_callB (id := "all") (r := rAll K) (cr_all rfl) (by rfl) T.b_all (by decide +kernel) (pa_cons (pe_lc (own := [("part", 2), ("role", 3)]) (g := (gTup K 2 (gCons (gName 2) (gCons (gName 3) gNil)))) (tt := tYes) rfl sc_is_step.nd (RZ.pi_zipA rfl T.b_zip (pa_cons (pe_slice sl_tup (pv 0) (po_some pe_int) po_none) (pa_cons (pv 1) pa_nil))) (blkOk_by (N := ["step", "roles", "part", "role"]) (sc := defScope s_is_step) (by decide +kernel)) (fun _ _ _ _ _ => (pg_tup (n := 2) (by rfl) (pgs_cons (pg_name (i := 2) sc_is_step.nd rfl (Or.inl rfl)) (pgs_cons (pg_name (i := 3) sc_is_step.nd rfl (Or.inl rfl)) pgs_nil)))) (fun _ _ _ _ _ => pts_nil) (fun _ _ _ _ _ => (pe_call G_is_part (hr.mono (by decide)) rfl D_is_part.g D_is_part.F.kp D_is_part.b .nil pass0 (pa_cons (pv 2) (pa_cons (pv 3) pa_nil))))) pa_nil))))))), ?_⟩
    try simp (maxSteps := 1000000) only [tSeq, tIfS, tTest, tOp, tUn, tCB, tCons, tNil, tVar, tC, rI0, rI, rU, rEq, rNe, tRet, tRetN, tAsg, gName, gSub, tBM, tBM0, tNext, tB, tNot, tAnd, tOr, tIf, tCall, tDrop, tBreak, tCont, L2.start, tDGet, sDPut, tTup, tLst, tDNewK, tRevL, rCat, rAppend, rPop, rSetL, tAndV, tOrV, tNotV, tSl, tPart, tNoPart, tM1, gTup, gCons, gNil, cxK, cxnK, List.map_cons, List.map_nil, List.length_cons, List.length_nil, List.replicate, List.cons_append, List.nil_append, List.append_nil, List.set_cons_zero, List.set_cons_succ, List.getElem?_cons_zero, List.getElem?_cons_succ, Option.some.injEq, V.ref.injEq, V.int.injEq, V.str.injEq, V.bl.injEq, V.ty.injEq, exists_eq_left', exists_eq_left, exists_and_left, List.cons.injEq, and_true, true_and, sc_ii, sc_ss, sc_bb, sc_ni, sc_in, sc_is, sc_si, sc_nn, decide_true, decide_false, reduceCtorEq, Bool.false_eq_true, if_true, if_false, ite_true, ite_false, exists_const, eq_self, false_and, and_false, or_false, false_or, exists_false, Evl.rLenS, rSum, wipe, tYes, exists_eq, exists_eq', rIxL, rIxT, rIxS, exists_and_right, gt_iff_lt, not_true_eq_false, not_false_eq_true, Bool.not_true, Bool.not_false, decide_eq_true_eq, Nat.reduceSub, Nat.reduceAdd, List.append_assoc, tChain, tDIn, tDNotIn, sDDel, tAug, ipI]
    refine isi_D (.tup e (.cons (.str x) hd)) (b := true) (by simp only [tyD]; decide +kernel) ?_
    try simp (maxSteps := 1000000) only [tSeq, tIfS, tTest, tOp, tUn, tCB, tCons, tNil, tVar, tC, rI0, rI, rU, rEq, rNe, tRet, tRetN, tAsg, gName, gSub, tBM, tBM0, tNext, tB, tNot, tAnd, tOr, tIf, tCall, tDrop, tBreak, tCont, L2.start, tDGet, sDPut, tTup, tLst, tDNewK, tRevL, rCat, rAppend, rPop, rSetL, tAndV, tOrV, tNotV, tSl, tPart, tNoPart, tM1, gTup, gCons, gNil, cxK, cxnK, List.map_cons, List.map_nil, List.length_cons, List.length_nil, List.replicate, List.cons_append, List.nil_append, List.append_nil, List.set_cons_zero, List.set_cons_succ, List.getElem?_cons_zero, List.getElem?_cons_succ, Option.some.injEq, V.ref.injEq, V.int.injEq, V.str.injEq, V.bl.injEq, V.ty.injEq, exists_eq_left', exists_eq_left, exists_and_left, List.cons.injEq, and_true, true_and, sc_ii, sc_ss, sc_bb, sc_ni, sc_in, sc_is, sc_si, sc_nn, decide_true, decide_false, reduceCtorEq, Bool.false_eq_true, if_true, if_false, ite_true, ite_false, exists_const, eq_self, false_and, and_false, or_false, false_or, exists_false, Evl.rLenS, rSum, wipe, tYes, exists_eq, exists_eq', rIxL, rIxT, rIxS, exists_and_right, gt_iff_lt, not_true_eq_false, not_false_eq_true, Bool.not_true, Bool.not_false, decide_eq_true_eq, Nat.reduceSub, Nat.reduceAdd, List.append_assoc, tChain, tDIn, tDNotIn, sDDel, tAug, ipI]
    refine ⟨true, .inr (.inl ⟨_, sq_t e, rfl⟩), ?_⟩
    try simp (maxSteps := 1000000) only [tSeq, tIfS, tTest, tOp, tUn, tCB, tCons, tNil, tVar, tC, rI0, rI, rU, rEq, rNe, tRet, tRetN, tAsg, gName, gSub, tBM, tBM0, tNext, tB, tNot, tAnd, tOr, tIf, tCall, tDrop, tBreak, tCont, L2.start, tDGet, sDPut, tTup, tLst, tDNewK, tRevL, rCat, rAppend, rPop, rSetL, tAndV, tOrV, tNotV, tSl, tPart, tNoPart, tM1, gTup, gCons, gNil, cxK, cxnK, List.map_cons, List.map_nil, List.length_cons, List.length_nil, List.replicate, List.cons_append, List.nil_append, List.append_nil, List.set_cons_zero, List.set_cons_succ, List.getElem?_cons_zero, List.getElem?_cons_succ, Option.some.injEq, V.ref.injEq, V.int.injEq, V.str.injEq, V.bl.injEq, V.ty.injEq, exists_eq_left', exists_eq_left, exists_and_left, List.cons.injEq, and_true, true_and, sc_ii, sc_ss, sc_bb, sc_ni, sc_in, sc_is, sc_si, sc_nn, decide_true, decide_false, reduceCtorEq, Bool.false_eq_true, if_true, if_false, ite_true, ite_false, exists_const, eq_self, false_and, and_false, or_false, false_or, exists_false, Evl.rLenS, rSum, wipe, tYes, exists_eq, exists_eq', rIxL, rIxT, rIxS, exists_and_right, gt_iff_lt, not_true_eq_false, not_false_eq_true, Bool.not_true, Bool.not_false, decide_eq_true_eq, Nat.reduceSub, Nat.reduceAdd, List.append_assoc, tChain, tDIn, tDNotIn, sDDel, tAug, ipI]
    refine ⟨_, sq_t e, _, atI_of (by decide) rfl, ?_⟩
    refine isi_str_str ?_
    try simp (maxSteps := 1000000) only [tSeq, tIfS, tTest, tOp, tUn, tCB, tCons, tNil, tVar, tC, rI0, rI, rU, rEq, rNe, tRet, tRetN, tAsg, gName, gSub, tBM, tBM0, tNext, tB, tNot, tAnd, tOr, tIf, tCall, tDrop, tBreak, tCont, L2.start, tDGet, sDPut, tTup, tLst, tDNewK, tRevL, rCat, rAppend, rPop, rSetL, tAndV, tOrV, tNotV, tSl, tPart, tNoPart, tM1, gTup, gCons, gNil, cxK, cxnK, List.map_cons, List.map_nil, List.length_cons, List.length_nil, List.replicate, List.cons_append, List.nil_append, List.append_nil, List.set_cons_zero, List.set_cons_succ, List.getElem?_cons_zero, List.getElem?_cons_succ, Option.some.injEq, V.ref.injEq, V.int.injEq, V.str.injEq, V.bl.injEq, V.ty.injEq, exists_eq_left', exists_eq_left, exists_and_left, List.cons.injEq, and_true, true_and, sc_ii, sc_ss, sc_bb, sc_ni, sc_in, sc_is, sc_si, sc_nn, decide_true, decide_false, reduceCtorEq, Bool.false_eq_true, if_true, if_false, ite_true, ite_false, exists_const, eq_self, false_and, and_false, or_false, false_or, exists_false, Evl.rLenS, rSum, wipe, tYes, exists_eq, exists_eq', rIxL, rIxT, rIxS, exists_and_right, gt_iff_lt, not_true_eq_false, not_false_eq_true, Bool.not_true, Bool.not_false, decide_eq_true_eq, Nat.reduceSub, Nat.reduceAdd, List.append_assoc, tChain, tDIn, tDNotIn, sDDel, tAug, ipI]
    refine ⟨_, sq_t e, _, atI_of (by decide) rfl, x, rfl, _, hR, ?_⟩
    try simp (maxSteps := 1000000) only [tSeq, tIfS, tTest, tOp, tUn, tCB, tCons, tNil, tVar, tC, rI0, rI, rU, rEq, rNe, tRet, tRetN, tAsg, gName, gSub, tBM, tBM0, tNext, tB, tNot, tAnd, tOr, tIf, tCall, tDrop, tBreak, tCont, L2.start, tDGet, sDPut, tTup, tLst, tDNewK, tRevL, rCat, rAppend, rPop, rSetL, tAndV, tOrV, tNotV, tSl, tPart, tNoPart, tM1, gTup, gCons, gNil, cxK, cxnK, List.map_cons, List.map_nil, List.length_cons, List.length_nil, List.replicate, List.cons_append, List.nil_append, List.append_nil, List.set_cons_zero, List.set_cons_succ, List.getElem?_cons_zero, List.getElem?_cons_succ, Option.some.injEq, V.ref.injEq, V.int.injEq, V.str.injEq, V.bl.injEq, V.ty.injEq, exists_eq_left', exists_eq_left, exists_and_left, List.cons.injEq, and_true, true_and, sc_ii, sc_ss, sc_bb, sc_ni, sc_in, sc_is, sc_si, sc_nn, decide_true, decide_false, reduceCtorEq, Bool.false_eq_true, if_true, if_false, ite_true, ite_false, exists_const, eq_self, false_and, and_false, or_false, false_or, exists_false, Evl.rLenS, rSum, wipe, tYes, exists_eq, exists_eq', rIxL, rIxT, rIxS, exists_and_right, gt_iff_lt, not_true_eq_false, not_false_eq_true, Bool.not_true, Bool.not_false, decide_eq_true_eq, Nat.reduceSub, Nat.reduceAdd, List.append_assoc, tChain, tDIn, tDNotIn, sDDel, tAug, ipI, Option.isSome]
    refine ⟨_, sq_t e, _, atI_of (by decide) rfl, T_FORMS, x, .ref R, rfl, rfl, ⟨es, n, .ref R, T.DF.at_, T.DF.lit, hR, rfl⟩, ?_⟩
    try simp (maxSteps := 1000000) only [tSeq, tIfS, tTest, tOp, tUn, tCB, tCons, tNil, tVar, tC, rI0, rI, rU, rEq, rNe, tRet, tRetN, tAsg, gName, gSub, tBM, tBM0, tNext, tB, tNot, tAnd, tOr, tIf, tCall, tDrop, tBreak, tCont, L2.start, tDGet, sDPut, tTup, tLst, tDNewK, tRevL, rCat, rAppend, rPop, rSetL, tAndV, tOrV, tNotV, tSl, tPart, tNoPart, tM1, gTup, gCons, gNil, cxK, cxnK, List.map_cons, List.map_nil, List.length_cons, List.length_nil, List.replicate, List.cons_append, List.nil_append, List.append_nil, List.set_cons_zero, List.set_cons_succ, List.getElem?_cons_zero, List.getElem?_cons_succ, Option.some.injEq, V.ref.injEq, V.int.injEq, V.str.injEq, V.bl.injEq, V.ty.injEq, exists_eq_left', exists_eq_left, exists_and_left, List.cons.injEq, and_true, true_and, sc_ii, sc_ss, sc_bb, sc_ni, sc_in, sc_is, sc_si, sc_nn, decide_true, decide_false, reduceCtorEq, Bool.false_eq_true, if_true, if_false, ite_true, ite_false, exists_const, eq_self, false_and, and_false, or_false, false_or, exists_false, Evl.rLenS, rSum, wipe, tYes, exists_eq, exists_eq', rIxL, rIxT, rIxS, exists_and_right, gt_iff_lt, not_true_eq_false, not_false_eq_true, Bool.not_true, Bool.not_false, decide_eq_true_eq, Nat.reduceSub, Nat.reduceAdd, List.append_assoc, tChain, tDIn, tDNotIn, sDDel, tAug, ipI]
    refine ⟨_, .inr (sq_t e), _, .inr (.inr wR), ?_⟩
    rw [List.length_map, List.length_cons, len]
    unfold stepD at q
    by_cases hlen : ds.length = rs.length
    · have e1 : ((ds.length + 1 : Nat) : Int) = ((rs.length : Nat) : Int) + 1 := by omega
      rw [beq_iff_eq.mpr hlen] at q
      try simp (maxSteps := 1000000) only [tSeq, tIfS, tTest, tOp, tUn, tCB, tCons, tNil, tVar, tC, rI0, rI, rU, rEq, rNe, tRet, tRetN, tAsg, gName, gSub, tBM, tBM0, tNext, tB, tNot, tAnd, tOr, tIf, tCall, tDrop, tBreak, tCont, L2.start, tDGet, sDPut, tTup, tLst, tDNewK, tRevL, rCat, rAppend, rPop, rSetL, tAndV, tOrV, tNotV, tSl, tPart, tNoPart, tM1, gTup, gCons, gNil, cxK, cxnK, List.map_cons, List.map_nil, List.length_cons, List.length_nil, List.replicate, List.cons_append, List.nil_append, List.append_nil, List.set_cons_zero, List.set_cons_succ, List.getElem?_cons_zero, List.getElem?_cons_succ, Option.some.injEq, V.ref.injEq, V.int.injEq, V.str.injEq, V.bl.injEq, V.ty.injEq, exists_eq_left', exists_eq_left, exists_and_left, List.cons.injEq, and_true, true_and, sc_ii, sc_ss, sc_bb, sc_ni, sc_in, sc_is, sc_si, sc_nn, decide_true, decide_false, reduceCtorEq, Bool.false_eq_true, if_true, if_false, ite_true, ite_false, exists_const, eq_self, false_and, and_false, or_false, false_or, exists_false, Evl.rLenS, rSum, wipe, tYes, exists_eq, exists_eq', rIxL, rIxT, rIxS, exists_and_right, gt_iff_lt, not_true_eq_false, not_false_eq_true, Bool.not_true, Bool.not_false, decide_eq_true_eq, Nat.reduceSub, Nat.reduceAdd, List.append_assoc, tChain, tDIn, tDNotIn, sDDel, tAug, ipI, e1]
      refine ⟨.ref a, rfl, ?_⟩
      try simp (maxSteps := 1000000) only [tSeq, tIfS, tTest, tOp, tUn, tCB, tCons, tNil, tVar, tC, rI0, rI, rU, rEq, rNe, tRet, tRetN, tAsg, gSub, tBM, tBM0, tNext, tB, tNot, tAnd, tOr, tIf, tDrop, tBreak, tCont, L2.start, tDGet, sDPut, tTup, tLst, tDNewK, tRevL, rCat, rAppend, rPop, rSetL, tAndV, tOrV, tNotV, tSl, tPart, tNoPart, tM1, cxK, cxnK, List.map_cons, List.map_nil, List.length_cons, List.length_nil, List.replicate, List.cons_append, List.nil_append, List.append_nil, List.set_cons_zero, List.set_cons_succ, List.getElem?_cons_zero, List.getElem?_cons_succ, Option.some.injEq, V.ref.injEq, V.int.injEq, V.str.injEq, V.bl.injEq, V.ty.injEq, exists_eq_left', exists_eq_left, exists_and_left, List.cons.injEq, and_true, true_and, sc_ii, sc_ss, sc_bb, sc_ni, sc_in, sc_is, sc_si, sc_nn, decide_true, decide_false, reduceCtorEq, Bool.false_eq_true, if_true, if_false, ite_true, ite_false, exists_const, eq_self, false_and, and_false, or_false, false_or, exists_false, Evl.rLenS, rSum, exists_eq, exists_eq', rIxL, rIxT, rIxS, exists_and_right, gt_iff_lt, not_true_eq_false, not_false_eq_true, Bool.not_true, Bool.not_false, decide_eq_true_eq, Nat.reduceSub, Nat.reduceAdd, List.append_assoc, tChain, tDIn, tDNotIn, sDDel, tAug, ipI, rSlT]
      refine ⟨_, sq_t e, cut1_ne, fun p np => ?_⟩
      rw [cut1]
      refine ⟨p, R, ⟨rfl, rfl⟩, ps, rs.map V.str, .inr ⟨sq_t upd_same, .inr wR, fun D nD => ?_⟩⟩
      have k0 : Kp [] H (upd H p (.tup ps)) := Kp.new np
      have hp0 : (upd H p (.tup ps)) p = some (.tup ps) := upd_same
      have hlen' : ds.length = rs.length := hlen
      have zl : (ds.zip rs).length = ds.length := by rw [List.length_zip, hlen', Nat.min_self]
      refine lc_it (walk_zipT (n := ds.length) (by rw [len, List.length_map, ← hlen', Nat.min_self])) (AllIn (fun z => partD z.2 z.1) (ds.zip rs) D (upd H p (.tup ps))) ⟨upd_same, Kp.new nD⟩ (fun i H1 _ h => ⟨sq_t (h.2 _ _ not0 hp0), .inr wR⟩) ?_ ?_
      · rintro i x H1 H2 hi h ⟨t, u, v, rfl, nt, rfl, e1, e2⟩
        obtain ⟨d, ed, hdd⟩ := hd.get e1
        obtain ⟨r, er, rfl⟩ : ∃ r, rs[i]? = some r ∧ v = V.str r := by
          have e2 : (rs.map V.str)[i]? = some v := e2
          rw [List.getElem?_map] at e2
          cases er : rs[i]? with
          | none => rw [er] at e2; cases e2
          | some r => rw [er] at e2; exact ⟨r, rfl, (Option.some.inj e2).symm⟩
        try simp (maxSteps := 1000000) only [tSeq, tIfS, tTest, tOp, tUn, tCB, tCons, tNil, tVar, tC, rI0, rI, rU, rEq, rNe, tRet, tRetN, tAsg, gName, gSub, tBM, tBM0, tNext, tB, tNot, tAnd, tOr, tIf, tCall, tDrop, tBreak, tCont, L2.start, tDGet, sDPut, tTup, tLst, tDNewK, tRevL, rCat, rAppend, rPop, rSetL, tAndV, tOrV, tNotV, tSl, tPart, tNoPart, tM1, gTup, gCons, gNil, cxK, cxnK, List.map_cons, List.map_nil, List.length_cons, List.length_nil, List.replicate, List.cons_append, List.nil_append, List.append_nil, List.set_cons_zero, List.set_cons_succ, List.getElem?_cons_zero, List.getElem?_cons_succ, Option.some.injEq, V.ref.injEq, V.int.injEq, V.str.injEq, V.bl.injEq, V.ty.injEq, exists_eq_left', exists_eq_left, exists_and_left, List.cons.injEq, and_true, true_and, sc_ii, sc_ss, sc_bb, sc_ni, sc_in, sc_is, sc_si, sc_nn, decide_true, decide_false, reduceCtorEq, Bool.false_eq_true, if_true, if_false, ite_true, ite_false, exists_const, eq_self, false_and, and_false, or_false, false_or, exists_false, Evl.rLenS, rSum, wipe, tYes, exists_eq, exists_eq', rIxL, rIxT, rIxS, exists_and_right, gt_iff_lt, not_true_eq_false, not_false_eq_true, Bool.not_true, Bool.not_false, decide_eq_true_eq, Nat.reduceSub, Nat.reduceAdd, List.append_assoc, tChain, tDIn, tDNotIn, sDDel, tAug, ipI]
        refine ⟨_, sq_t upd_same, rfl, _, _, rfl, _, _, rfl, rfl, ?_⟩
        have k1 : Kp [] H1 (upd H1 t (.tup [u, .str r])) := Kp.new nt
        refine ⟨u, d, r, rfl, hdd.kp ((k0.trans h.2).trans k1), szAll_mem sz d (List.mem_of_getElem? ed), fun _ => sg d (List.mem_of_getElem? ed), fun H3 k3 => ?_⟩
        exact allIn_step (g := fun z : PyData × Str => partD z.2 z.1) (d := (d, r)) nD h (k1.trans k3) (by rw [List.getElem?_zip_eq_some]; exact ⟨ed, er⟩) (by omega)
      · intro H1 h
        rw [← zl] at h
        exact allIn_end h (q _ (k0.trans h.2))
    · have e1 : ¬ ((ds.length + 1 : Nat) : Int) = ((rs.length : Nat) : Int) + 1 := by omega
      rw [beq_eq_false_iff_ne.mpr hlen] at q
      try simp (maxSteps := 1000000) only [tSeq, tIfS, tTest, tOp, tUn, tCB, tCons, tNil, tVar, tC, rI0, rI, rU, rEq, rNe, tRet, tRetN, tAsg, gName, gSub, tBM, tBM0, tNext, tB, tNot, tAnd, tOr, tIf, tCall, tDrop, tBreak, tCont, L2.start, tDGet, sDPut, tTup, tLst, tDNewK, tRevL, rCat, rAppend, rPop, rSetL, tAndV, tOrV, tNotV, tSl, tPart, tNoPart, tM1, gTup, gCons, gNil, cxK, cxnK, List.map_cons, List.map_nil, List.length_cons, List.length_nil, List.replicate, List.cons_append, List.nil_append, List.append_nil, List.set_cons_zero, List.set_cons_succ, List.getElem?_cons_zero, List.getElem?_cons_succ, Option.some.injEq, V.ref.injEq, V.int.injEq, V.str.injEq, V.bl.injEq, V.ty.injEq, exists_eq_left', exists_eq_left, exists_and_left, List.cons.injEq, and_true, true_and, sc_ii, sc_ss, sc_bb, sc_ni, sc_in, sc_is, sc_si, sc_nn, decide_true, decide_false, reduceCtorEq, Bool.false_eq_true, if_true, if_false, ite_true, ite_false, exists_const, eq_self, false_and, and_false, or_false, false_or, exists_false, Evl.rLenS, rSum, wipe, tYes, exists_eq, exists_eq', rIxL, rIxT, rIxS, exists_and_right, gt_iff_lt, not_true_eq_false, not_false_eq_true, Bool.not_true, Bool.not_false, decide_eq_true_eq, Nat.reduceSub, Nat.reduceAdd, List.append_assoc, tChain, tDIn, tDNotIn, sDDel, tAug, ipI, e1]
      exact q _ (Kp.refl _ _)
end
end My

set_option Elab.async false
set_option linter.all false
set_option maxRecDepth 100000
set_option maxHeartbeats 4000000
namespace My
open PySem L2
abbrev s_lock_fault : Stmt := top 19
theorem sc_lock_fault : FnScope ["steps", "held", "at", "step", "word"] ["steps"] (defScope s_lock_fault) := ⟨rfl, rfl, rfl, by decide +kernel, rfl, by decide +kernel, by decide +kernel⟩
/-! ### lock and free steps, apart from the rest -/
/-- a step: a lock step (true) or free step (false) of a name, or another -/
abbrev Lk := Option (Bool × Str)
def cnt (n : Str) : List Lk → Int
  | [] => 0
  | l :: r => (if l = some (true, n) then 1 else if l = some (false, n) then -1 else 0) + cnt n r
def one (l : Lk) : Int := match l with
  | some (true, _) => 1
  | some (false, _) => -1
  | none => 0
def dep : List Lk → Int
  | [] => 0
  | l :: r => one l + dep r
theorem cnt_app (n : Str) : ∀ a b : List Lk, cnt n (a ++ b) = cnt n a + cnt n b
  | [], b => by show cnt n b = 0 + cnt n b; omega
  | l :: a, b => by
    show _ + cnt n (a ++ b) = _ + cnt n a + cnt n b
    rw [cnt_app n a b]; omega
theorem dep_app : ∀ a b : List Lk, dep (a ++ b) = dep a + dep b
  | [], b => by show dep b = 0 + dep b; omega
  | l :: a, b => by
    show _ + dep (a ++ b) = _ + dep a + dep b
    rw [dep_app a b]; omega
def cn (n : Str) (ls : List Lk) (i : Nat) : Int := cnt n (ls.take i)
def dp (ls : List Lk) (i : Nat) : Int := dep (ls.take i)
theorem cn_zero {n : Str} {ls : List Lk} : cn n ls 0 = 0 := rfl
theorem dp_zero {ls : List Lk} : dp ls 0 = 0 := rfl
theorem cn_next {n : Str} {ls : List Lk} {i : Nat} {l : Lk} (h : ls[i]? = some l) : cn n ls (i + 1) = cn n ls i + (if l = some (true, n) then 1 else if l = some (false, n) then -1 else 0) := by
  unfold cn
  rw [take_snocA h, cnt_app]
  show _ + (_ + 0) = _
  omega
theorem dp_next {ls : List Lk} {i : Nat} {l : Lk} (h : ls[i]? = some l) : dp ls (i + 1) = dp ls i + one l := by
  unfold dp
  rw [take_snocA h, dep_app]
  show _ + (_ + 0) = _
  omega
def fine (ls : List Lk) (i : Nat) : Prop := ∀ b n, ls[i]? = some (some (b, n)) → cn n ls i = if b then 0 else 1
/-- what the first fault is: r the number told, or none -/
inductive IsF (ls : List Lk) : Option Nat → Prop
  | bad (k : Nat) : k < ls.length → (∀ i, i < k → fine ls i) → ¬ fine ls k → IsF ls (some k)
  | held : (∀ i, i < ls.length → fine ls i) → (∃ n, cn n ls ls.length ≠ 0) → IsF ls (some ls.length)
  | good : (∀ i, i < ls.length → fine ls i) → (∀ n, cn n ls ls.length = 0) → IsF ls none
theorem IsF.uniq {ls : List Lk} {r q : Option Nat} (h : IsF ls r) (g : IsF ls q) : r = q := by
  cases h with
  | bad k hk h1 h2 =>
    cases g with
    | bad j hj g1 g2 =>
      rcases Nat.lt_trichotomy k j with z | z | z
      · exact absurd (g1 k z) h2
      · rw [z]
      · exact absurd (h1 j z) g2
    | held g1 _ => exact absurd (g1 k hk) h2
    | good g1 _ => exact absurd (g1 k hk) h2
  | held h1 h2 =>
    cases g with
    | bad j hj g1 g2 => exact absurd (h1 j hj) g2
    | held _ _ => rfl
    | good g1 g2 => obtain ⟨n, z⟩ := h2; exact absurd (g2 n) z
  | good h1 h2 =>
    cases g with
    | bad j hj g1 g2 => exact absurd (h1 j hj) g2
    | held _ g2 => obtain ⟨n, z⟩ := g2; exact absurd (h2 n) z
    | good _ _ => rfl
/-- the names that are held behind i steps -/
structure HeldL (ls : List Lk) (i : Nat) (hs : List Str) : Prop where
  nd : hs.Nodup
  c : ∀ n, cn n ls i = if n ∈ hs then 1 else 0
  d : dp ls i = hs.length
  sz : hs.length ≤ i
theorem HeldL.zero {ls : List Lk} : HeldL ls 0 [] := ⟨List.nodup_nil, fun n => rfl, rfl, Nat.le_refl _⟩
theorem HeldL.oth {ls : List Lk} {i : Nat} {hs : List Str} (h : HeldL ls i hs) (e : ls[i]? = some none) : HeldL ls (i + 1) hs :=
  ⟨h.nd, fun n => by rw [cn_next e, h.c n]; simp, by rw [dp_next e, h.d]; simp [one], Nat.le_succ_of_le h.sz⟩
theorem HeldL.lock {ls : List Lk} {i : Nat} {hs : List Str} {n : Str} (h : HeldL ls i hs) (e : ls[i]? = some (some (true, n))) (hn : n ∉ hs) : HeldL ls (i + 1) (hs ++ [n]) := by
  refine ⟨?_, fun m => ?_, ?_, by rw [List.length_append, List.length_singleton]; have := h.sz; omega⟩
  · rw [List.nodup_append]
    exact ⟨h.nd, by simp, fun a ha b hb => by rw [List.mem_singleton.mp hb]; rintro rfl; exact hn ha⟩
  · rw [cn_next e, h.c m]
    by_cases z : n = m
    · subst z; simp [hn]
    · have z' : m ≠ n := fun q => z q.symm
      simp [z, z']
  · rw [dp_next e, h.d, List.length_append]; simp [one]
theorem HeldL.free {ls : List Lk} {i : Nat} {hs : List Str} {n : Str} (h : HeldL ls i hs) (e : ls[i]? = some (some (false, n))) (hn : n ∈ hs) : HeldL ls (i + 1) (hs.filter fun m => decide (m ≠ n)) := by
  refine ⟨h.nd.filter _, fun m => ?_, ?_, Nat.le_trans (List.length_filter_le _ _) (Nat.le_succ_of_le h.sz)⟩
  · rw [cn_next e, h.c m]
    by_cases z : n = m
    · subst z; simp [hn]
    · have z' : m ≠ n := fun q => z q.symm
      simp [z, z']
  · rw [dp_next e, h.d]
    have key : ∀ hs : List Str, hs.Nodup → n ∈ hs → (hs.filter fun m => decide (m ≠ n)).length + 1 = hs.length := by
      intro hs
      induction hs with
      | nil => intro _ h; nomatch h
      | cons a r ih =>
        intro nd hm
        rw [List.nodup_cons] at nd
        by_cases ea : a = n
        · subst ea
          have er : (r.filter fun m => decide (m ≠ a)) = r := List.filter_eq_self.mpr fun x hx => by simp; rintro rfl; exact nd.1 hx
          rw [List.filter_cons]; simp only [ne_eq, not_true_eq_false, decide_false, Bool.false_eq_true, if_false, List.length_cons]
          simpa using congrArg List.length er
        · rcases List.mem_cons.mp hm with z | z
          · exact absurd z.symm ea
          · have := ih nd.2 z
            rw [List.filter_cons, if_pos (by simpa using ea), List.length_cons, List.length_cons]; omega
    have := key hs h.nd hn
    simp only [one]
    omega
/-- a step in the heap -/
structure StepV (H : Hp) (v : V) (l : Lk) : Prop where
  ex : ∃ (a : Addr) (x : Str) (ps : List V) (ds : List PyData) (rs : List Str), v = .ref a ∧ H a = some (.tup (.str x :: ps)) ∧ DqAll H ps ds ∧ (szAll ds = true ∧ noLAll ds = true ∧ True) ∧ (x, rs) ∈ forms ∧ (∀ d ∈ ds, sgOk d) ∧ ds.length ≤ 1000 ∧ stepD rs ds = true ∧
    ((l = none ∧ x ≠ "lock" ∧ x ≠ "free") ∨ ∃ b n, l = some (b, n) ∧ x = (if b then "lock" else "free") ∧ ps = [.str n] ∧ ds = [.str n])
theorem StepV.kp {H H' : Hp} {v : V} {l : Lk} (h : StepV H v l) (k : Kp [] H H') : StepV H' v l := by
  obtain ⟨a, x, ps, ds, rs, h1, h2, h3, r⟩ := h.ex
  exact ⟨a, x, ps, ds, rs, h1, k _ _ not0 h2, h3.kp k, r⟩
theorem StepV.kpS {H H' : Hp} {S : List Addr} {v : V} {l : Lk} (h : StepV H v l) (k : Kp S H H') (hS : ∀ a ∈ S, ∃ xs, H a = some (.lst xs)) : StepV H' v l := by
  obtain ⟨a, x, ps, ds, rs, h1, h2, h3, h4, r⟩ := h.ex
  exact ⟨a, x, ps, ds, rs, h1, k _ _ (fun m => by
    obtain ⟨xs, q⟩ := hS _ m
    rw [h2] at q; cases q) h2, h3.kpS k hS h4.2.1, h4, r⟩
def Steps (H : Hp) (xs : List V) (ls : List Lk) : Prop := xs.length = ls.length ∧ ∀ (i : Nat) (x : V), xs[i]? = some x → ∃ l, ls[i]? = some l ∧ StepV H x l
theorem Steps.kp {H H' : Hp} {xs : List V} {ls : List Lk} (h : Steps H xs ls) (k : Kp [] H H') : Steps H' xs ls := ⟨h.1, fun i x e => by
  obtain ⟨l, e1, s⟩ := h.2 i x e
  exact ⟨l, e1, s.kp k⟩⟩
/-- the first word of a step, and its name -/
theorem StepV.at0 {K : PySem.W.Frag} {H : Hp} {v : V} {l : Lk} (h : StepV H v l) : ∃ (a : Addr) (x : Str) (ps : List V), v = .ref a ∧ H a = some (.tup (.str x :: ps)) ∧ ((l = none ∧ x ≠ "lock" ∧ x ≠ "free") ∨ (∃ n, l = some (true, n) ∧ x = "lock" ∧ ps = [.str n]) ∨ (∃ n, l = some (false, n) ∧ x = "free" ∧ ps = [.str n])) := by
  obtain ⟨a, x, ps, ds, rs, h1, h2, h3, _, _, _, _, _, h4⟩ := h.ex
  refine ⟨a, x, ps, h1, h2, ?_⟩
  rcases h4 with h4 | ⟨b, n, h5, h6, h7, _⟩
  · exact .inl h4
  · cases b with
    | true => exact .inr (.inl ⟨n, h5, h6, h7⟩)
    | false => exact .inr (.inr ⟨n, h5, h6, h7⟩)
/-! ### lock_fault -/
def hdK (hs : List Str) : List (Key × V) := hs.map fun n => (Sum.inr n, V.bl true)
theorem hdK_val (n : Str) : ∀ hs : List Str, valV (hdK hs) (Sum.inr n) = if n ∈ hs then some (.bl true) else none
  | [] => rfl
  | m :: r => by
    have ih := hdK_val n r
    by_cases e : (Sum.inr m : Key) = Sum.inr n
    · have e' : m = n := by cases e; rfl
      rw [show hdK (m :: r) = (Sum.inr m, V.bl true) :: hdK r from rfl, valV_pos e, if_pos (by rw [e']; exact List.mem_cons_self)]
    · have e' : n ≠ m := fun z => e (by rw [z])
      rw [show hdK (m :: r) = (Sum.inr m, V.bl true) :: hdK r from rfl, valV_neg e, ih]
      simp [e']
theorem hdK_put {n : Str} {hs : List Str} (h : n ∉ hs) : putK (hdK hs) (Sum.inr n) (.bl true) = hdK (hs ++ [n]) := by
  unfold putK
  rw [if_neg]
  · unfold hdK; rw [List.map_append]; rfl
  · intro z
    obtain ⟨p, hp, e⟩ := List.any_eq_true.mp z
    obtain ⟨m, hm, rfl⟩ := List.mem_map.mp hp
    have e' : (Sum.inr m : Key) = Sum.inr n := of_decide_eq_true e
    cases e'
    exact h hm
theorem hdK_drop {n : Str} {hs : List Str} : dropK (hdK hs) (Sum.inr n) = hdK (hs.filter fun m => decide (m ≠ n)) := by
  unfold dropK hdK
  rw [List.filter_map]
  congr 1
  refine List.filter_congr fun m _ => ?_
  simp
def optV : Option Nat → V
  | none => .non
  | some k => .int (k : Nat)
theorem free_lock : Str.ofString "free" ≠ Str.ofString "lock" := by decide +kernel
structure Bt2 (mg : Str → Option Value) : Prop where
  b_enumerate : mg "enumerate" = none
  b_len : mg "len" = none
  b_list : mg "list" = none
def spFault (K : PySem.W.Frag) : Sp := fun vs H Q _ => ∃ (a : Addr) (xs : List V) (ls : List Lk), vs = [.ref a] ∧ SqL K H a xs ∧ Steps H xs ls ∧ xs.length ≤ 1000 ∧ ∀ r H', IsF ls r → Kp [] H H' → Q (optV r) H'
def FltInv (a o : Addr) (ls : List Lk) (H : Hp) (i : Nat) (σ : L2.St) (H' : Hp) : Prop := ∃ (hs : List Str) (c1 c2 c3 : Option V), σ = [some (.ref a), some (.ref o), c1, c2, c3] ∧ H' o = some (.dK (hdK hs)) ∧ HeldL ls i hs ∧ (∀ j, j < i → fine ls j) ∧ Kp [] H H'
theorem fine_next {ls : List Lk} {i : Nat} (h : ∀ j, j < i → fine ls j) (g : fine ls i) : ∀ j, j < i + 1 → fine ls j := fun j hj => by
  by_cases e : j = i
  · rw [e]; exact g
  · exact h j (by omega)
section
variable {P : Program} {w : World} {K : PySem.W.Frag} {mg : Str → Option Value} {base : Heap}
theorem ok_lock_fault {f : Addr} {fd : FuncData} (D : Df K mg "lock_fault" s_lock_fault ["steps"] f fd) (T : Bt2 mg) : FnOk P w K mg base CX0 1 f fd ["steps"] (spFault K) := by
  refine D.F.ok sc_lock_fault (fun vs H Q E h => ?_) (fun cdv A outer s H vs Q E hr h => ?_)
  · obtain ⟨a, _, _, rfl, _⟩ := h
    rfl
  · obtain ⟨a, xs, ls, rfl, hS, hst, hl, q⟩ := h
    have hu := hu_of hr
    refine ⟨_, (pss_cons (ps_set (i := 1) sc_lock_fault.nd rfl (Or.inl rfl) pe_dnewK)
      (pss_cons (ps_for PassesOwn.never rfl (pi_enum rfl T.b_enumerate (pa_cons (pv 0) pa_nil)) (pg_tup (n := 2) (by rfl) (pgs_cons (pg_name (i := 2) sc_lock_fault.nd rfl (Or.inl rfl)) (pgs_cons (pg_name (i := 3) sc_lock_fault.nd rfl (Or.inl rfl)) pgs_nil))) (pss_cons (ps_set (i := 4) sc_lock_fault.nd rfl (Or.inl rfl) (pe_ix (r := rIxT K) ix_tup (pv 3) pe_int (fun _ _ => rfl)))
      (pss_one (ps_if (pt_cmpR op_in_seq (pv 4) (pe_tup (pa_cons pe_str (pa_cons pe_str pa_nil))) (by rfl)) (pss_cons (ps_if (pt_cmpR op_eq (pe_cmpR op_eq (pv 4) pe_str (nomark _)) (pe_cmp (pc_din hu (pe_ix (r := rIxT K) ix_tup (pv 3) pe_int (fun _ _ => rfl)) (pv 1)) rfl) (nomark _)) (pss_one (ps_ret (pv 2))) pss_nil)
      (pss_one (ps_if (pt_cmpR op_eq (pv 4) pe_str (nomark _)) (pss_one (ps_dput hu (pv 1) (pe_ix (r := rIxT K) ix_tup (pv 3) pe_int (fun _ _ => rfl)) pe_bl rfl)) (pss_one (ps_ddel (pv 1) (pe_ix (r := rIxT K) ix_tup (pv 3) pe_int (fun _ _ => rfl))))))) pss_nil))))
      (pss_one (ps_ret (pe_ifExp (pt_truth (pv 1) (by intro _; rfl)) (pe_callB (id := "len") (r := Evl.rLenS K) call_len_seq (by rfl) T.b_len PySem.boot_len (pa_cons (pv 0) pa_nil)) pe_non))))), ?_⟩
    try simp (maxSteps := 1000000) only [tSeq, tIfS, tTest, tOp, tUn, tCB, tCons, tNil, tVar, tC, rI0, rI, rU, rEq, rNe, tRet, tRetN, tAsg, gName, gSub, tBM, tBM0, tNext, tB, tNot, tAnd, tOr, tIf, tCall, tDrop, tBreak, tCont, L2.start, tDGet, sDPut, tTup, tLst, tDNewK, tRevL, rCat, rAppend, rPop, rSetL, tAndV, tOrV, tNotV, tSl, tPart, tNoPart, tM1, gTup, gCons, gNil, cxK, cxnK, List.map_cons, List.map_nil, List.length_cons, List.length_nil, List.replicate, List.cons_append, List.nil_append, List.append_nil, List.set_cons_zero, List.set_cons_succ, List.getElem?_cons_zero, List.getElem?_cons_succ, Option.some.injEq, V.ref.injEq, V.int.injEq, V.str.injEq, V.bl.injEq, V.ty.injEq, exists_eq_left', exists_eq_left, exists_and_left, List.cons.injEq, and_true, true_and, sc_ii, sc_ss, sc_bb, sc_ni, sc_in, sc_is, sc_si, sc_nn, decide_true, decide_false, reduceCtorEq, Bool.false_eq_true, if_true, if_false, ite_true, ite_false, exists_const, eq_self, false_and, and_false, or_false, false_or, exists_false, Evl.rLenS, rSum, wipe, tYes, exists_eq, exists_eq', rIxL, rIxT, rIxS, exists_and_right, gt_iff_lt, not_true_eq_false, not_false_eq_true, Bool.not_true, Bool.not_false, decide_eq_true_eq, Nat.reduceSub, Nat.reduceAdd, List.append_assoc, tChain, tDIn, tDNotIn, sDDel, tAug, ipI]
    intro o no
    refine ⟨.ref a, rfl, a, xs, rfl, (Kp.new no).ls not0 hS, ?_⟩
    refine for_it (walk_enum (K := K) (a := a) (xs := xs)) (FltInv a o ls H) ⟨[], _, _, _, rfl, upd_same, .zero, (fun j hj => absurd hj (by omega)), Kp.new no⟩ ?_ ?_ ?_
    · rintro i σ H1 _ ⟨hs, c1, c2, c3, rfl, ho, hh, hf, kp⟩
      exact kp.ls not0 hS
    · rintro i x σ H1 H2 hi ⟨hs, c1, c2, c3, rfl, ho, hh, hf, kp⟩ ⟨t, u, v, rfl, nt, rfl, e1, e2⟩
      cases e1
      obtain ⟨l, el, sv⟩ := hst.2 i v e2
      have k1 : Kp [] H1 (upd H1 t (.tup [.int (i : Nat), v])) := Kp.new nt
      have k01 := kp.trans k1
      have ho1 := k1 _ _ not0 ho
      obtain ⟨b, x, ps, rfl, eb, cs⟩ := (sv.kp k01).at0 (K := K)
      try simp (maxSteps := 1000000) only [tSeq, tIfS, tTest, tOp, tUn, tCB, tCons, tNil, tVar, tC, rI0, rI, rU, rEq, rNe, tRet, tRetN, tAsg, gName, gSub, tBM, tBM0, tNext, tB, tNot, tAnd, tOr, tIf, tCall, tDrop, tBreak, tCont, L2.start, tDGet, sDPut, tTup, tLst, tDNewK, tRevL, rCat, rAppend, rPop, rSetL, tAndV, tOrV, tNotV, tSl, tPart, tNoPart, tM1, gTup, gCons, gNil, cxK, cxnK, List.map_cons, List.map_nil, List.length_cons, List.length_nil, List.replicate, List.cons_append, List.nil_append, List.append_nil, List.set_cons_zero, List.set_cons_succ, List.getElem?_cons_zero, List.getElem?_cons_succ, Option.some.injEq, V.ref.injEq, V.int.injEq, V.str.injEq, V.bl.injEq, V.ty.injEq, exists_eq_left', exists_eq_left, exists_and_left, List.cons.injEq, and_true, true_and, sc_ii, sc_ss, sc_bb, sc_ni, sc_in, sc_is, sc_si, sc_nn, decide_true, decide_false, reduceCtorEq, Bool.false_eq_true, if_true, if_false, ite_true, ite_false, exists_const, eq_self, false_and, and_false, or_false, false_or, exists_false, Evl.rLenS, rSum, wipe, tYes, exists_eq, exists_eq', rIxL, rIxT, rIxS, exists_and_right, gt_iff_lt, not_true_eq_false, not_false_eq_true, Bool.not_true, Bool.not_false, decide_eq_true_eq, Nat.reduceSub, Nat.reduceAdd, List.append_assoc, tChain, tDIn, tDNotIn, sDDel, tAug, ipI]
      refine ⟨_, sq_t upd_same, rfl, _, _, rfl, _, _, rfl, rfl, b, rfl, ?_⟩
      refine ⟨_, sq_t eb, _, atI_of (by decide) rfl, small (by decide), fun p np => ?_⟩
      have k2 : Kp [] (upd H1 t (.tup [.int (i : Nat), .ref b])) (upd (upd H1 t (.tup [.int (i : Nat), .ref b])) p (.tup [.str "lock", .str "free"])) := Kp.new np
      have k02 := k01.trans k2
      have ho2 := k2 _ _ not0 ho1
      have eb2 := k2 _ _ not0 eb
      refine ⟨p, _, rfl, .inr (sq_t upd_same), rfl, rfl, ?_⟩
      try simp (maxSteps := 1000000) only [tSeq, tIfS, tTest, tOp, tUn, tCB, tCons, tNil, tVar, tC, rI0, rI, rU, rEq, rNe, tRet, tRetN, tAsg, gName, gSub, tBM, tBM0, tNext, tB, tNot, tAnd, tOr, tIf, tCall, tDrop, tBreak, tCont, L2.start, tDGet, sDPut, tTup, tLst, tDNewK, tRevL, rCat, rAppend, rPop, rSetL, tAndV, tOrV, tNotV, tSl, tPart, tNoPart, tM1, gTup, gCons, gNil, cxK, cxnK, List.map_cons, List.map_nil, List.length_cons, List.length_nil, List.replicate, List.cons_append, List.nil_append, List.append_nil, List.set_cons_zero, List.set_cons_succ, List.getElem?_cons_zero, List.getElem?_cons_succ, Option.some.injEq, V.ref.injEq, V.int.injEq, V.str.injEq, V.bl.injEq, V.ty.injEq, exists_eq_left', exists_eq_left, exists_and_left, List.cons.injEq, and_true, true_and, sc_ii, sc_ss, sc_bb, sc_ni, sc_in, sc_is, sc_si, sc_nn, decide_true, decide_false, reduceCtorEq, Bool.false_eq_true, if_true, if_false, ite_true, ite_false, exists_const, eq_self, false_and, and_false, or_false, false_or, exists_false, Evl.rLenS, rSum, wipe, tYes, exists_eq, exists_eq', rIxL, rIxT, rIxS, exists_and_right, gt_iff_lt, not_true_eq_false, not_false_eq_true, Bool.not_true, Bool.not_false, decide_eq_true_eq, Nat.reduceSub, Nat.reduceAdd, List.append_assoc, tChain, tDIn, tDNotIn, sDDel, tAug, ipI]
      have inL : inV (.str x) [.str "lock", .str "free"] = (("lock" == x) || (("free" == x) || false)) := rfl
      rw [inL]
      rcases cs with ⟨rfl, x1, x2⟩ | ⟨n, rfl, rfl, rfl⟩ | ⟨n, rfl, rfl, rfl⟩
      · rw [beq_eq_false_iff_ne.mpr (Ne.symm x1), beq_eq_false_iff_ne.mpr (Ne.symm x2)]
        try simp (maxSteps := 1000000) only [tSeq, tIfS, tTest, tOp, tUn, tCB, tCons, tNil, tVar, tC, rI0, rI, rU, rEq, rNe, tRet, tRetN, tAsg, gName, gSub, tBM, tBM0, tNext, tB, tNot, tAnd, tOr, tIf, tCall, tDrop, tBreak, tCont, L2.start, tDGet, sDPut, tTup, tLst, tDNewK, tRevL, rCat, rAppend, rPop, rSetL, tAndV, tOrV, tNotV, tSl, tPart, tNoPart, tM1, gTup, gCons, gNil, cxK, cxnK, List.map_cons, List.map_nil, List.length_cons, List.length_nil, List.replicate, List.cons_append, List.nil_append, List.append_nil, List.set_cons_zero, List.set_cons_succ, List.getElem?_cons_zero, List.getElem?_cons_succ, Option.some.injEq, V.ref.injEq, V.int.injEq, V.str.injEq, V.bl.injEq, V.ty.injEq, exists_eq_left', exists_eq_left, exists_and_left, List.cons.injEq, and_true, true_and, sc_ii, sc_ss, sc_bb, sc_ni, sc_in, sc_is, sc_si, sc_nn, decide_true, decide_false, reduceCtorEq, Bool.false_eq_true, if_true, if_false, ite_true, ite_false, exists_const, eq_self, false_and, and_false, or_false, false_or, exists_false, Evl.rLenS, rSum, wipe, tYes, exists_eq, exists_eq', rIxL, rIxT, rIxS, exists_and_right, gt_iff_lt, not_true_eq_false, not_false_eq_true, Bool.not_true, Bool.not_false, decide_eq_true_eq, Nat.reduceSub, Nat.reduceAdd, List.append_assoc, tChain, tDIn, tDNotIn, sDDel, tAug, ipI, Bool.or_false]
        exact ⟨hs, _, _, _, rfl, ho2, hh.oth el, fine_next hf (fun b n z => by rw [el] at z; cases z), k02⟩
      · try simp (maxSteps := 1000000) only [tSeq, tIfS, tTest, tOp, tUn, tCB, tCons, tNil, tVar, tC, rI0, rI, rU, rEq, rNe, tRet, tRetN, tAsg, gName, gSub, tBM, tBM0, tNext, tB, tNot, tAnd, tOr, tIf, tCall, tDrop, tBreak, tCont, L2.start, tDGet, sDPut, tTup, tLst, tDNewK, tRevL, rCat, rAppend, rPop, rSetL, tAndV, tOrV, tNotV, tSl, tPart, tNoPart, tM1, gTup, gCons, gNil, cxK, cxnK, List.map_cons, List.map_nil, List.length_cons, List.length_nil, List.replicate, List.cons_append, List.nil_append, List.append_nil, List.set_cons_zero, List.set_cons_succ, List.getElem?_cons_zero, List.getElem?_cons_succ, Option.some.injEq, V.ref.injEq, V.int.injEq, V.str.injEq, V.bl.injEq, V.ty.injEq, exists_eq_left', exists_eq_left, exists_and_left, List.cons.injEq, and_true, true_and, sc_ii, sc_ss, sc_bb, sc_ni, sc_in, sc_is, sc_si, sc_nn, decide_true, decide_false, reduceCtorEq, Bool.false_eq_true, if_true, if_false, ite_true, ite_false, exists_const, eq_self, false_and, and_false, or_false, false_or, exists_false, Evl.rLenS, rSum, wipe, tYes, exists_eq, exists_eq', rIxL, rIxT, rIxS, exists_and_right, gt_iff_lt, not_true_eq_false, not_false_eq_true, Bool.not_true, Bool.not_false, decide_eq_true_eq, Nat.reduceSub, Nat.reduceAdd, List.append_assoc, tChain, tDIn, tDNotIn, sDDel, tAug, ipI, beq_self_eq_true, Bool.true_or]
        refine ⟨_, sq_t eb2, _, atI_of (by decide) rfl, _, DGet.k (k := Sum.inr n) ho2, ?_⟩
        rw [hdK_val]
        by_cases hn : n ∈ hs
        · rw [if_pos hn]
          try simp (maxSteps := 1000000) only [tSeq, tIfS, tTest, tOp, tUn, tCB, tCons, tNil, tVar, tC, rI0, rI, rU, rEq, rNe, tRet, tRetN, tAsg, gName, gSub, tBM, tBM0, tNext, tB, tNot, tAnd, tOr, tIf, tCall, tDrop, tBreak, tCont, L2.start, tDGet, sDPut, tTup, tLst, tDNewK, tRevL, rCat, rAppend, rPop, rSetL, tAndV, tOrV, tNotV, tSl, tPart, tNoPart, tM1, gTup, gCons, gNil, cxK, cxnK, List.map_cons, List.map_nil, List.length_cons, List.length_nil, List.replicate, List.cons_append, List.nil_append, List.append_nil, List.set_cons_zero, List.set_cons_succ, List.getElem?_cons_zero, List.getElem?_cons_succ, Option.some.injEq, V.ref.injEq, V.int.injEq, V.str.injEq, V.bl.injEq, V.ty.injEq, exists_eq_left', exists_eq_left, exists_and_left, List.cons.injEq, and_true, true_and, sc_ii, sc_ss, sc_bb, sc_ni, sc_in, sc_is, sc_si, sc_nn, decide_true, decide_false, reduceCtorEq, Bool.false_eq_true, if_true, if_false, ite_true, ite_false, exists_const, eq_self, false_and, and_false, or_false, false_or, exists_false, Evl.rLenS, rSum, wipe, tYes, exists_eq, exists_eq', rIxL, rIxT, rIxS, exists_and_right, gt_iff_lt, not_true_eq_false, not_false_eq_true, Bool.not_true, Bool.not_false, decide_eq_true_eq, Nat.reduceSub, Nat.reduceAdd, List.append_assoc, tChain, tDIn, tDNotIn, sDDel, tAug, ipI, Option.isSome]
          refine q (some i) _ (.bad i (by rw [← hst.1]; exact hi) hf fun g => ?_) k02
          have z := g _ _ el
          rw [hh.c, if_pos hn] at z
          cases z
        · rw [if_neg hn]
          try simp (maxSteps := 1000000) only [tSeq, tIfS, tTest, tOp, tUn, tCB, tCons, tNil, tVar, tC, rI0, rI, rU, rEq, rNe, tRet, tRetN, tAsg, gName, gSub, tBM, tBM0, tNext, tB, tNot, tAnd, tOr, tIf, tCall, tDrop, tBreak, tCont, L2.start, tDGet, sDPut, tTup, tLst, tDNewK, tRevL, rCat, rAppend, rPop, rSetL, tAndV, tOrV, tNotV, tSl, tPart, tNoPart, tM1, gTup, gCons, gNil, cxK, cxnK, List.map_cons, List.map_nil, List.length_cons, List.length_nil, List.replicate, List.cons_append, List.nil_append, List.append_nil, List.set_cons_zero, List.set_cons_succ, List.getElem?_cons_zero, List.getElem?_cons_succ, Option.some.injEq, V.ref.injEq, V.int.injEq, V.str.injEq, V.bl.injEq, V.ty.injEq, exists_eq_left', exists_eq_left, exists_and_left, List.cons.injEq, and_true, true_and, sc_ii, sc_ss, sc_bb, sc_ni, sc_in, sc_is, sc_si, sc_nn, decide_true, decide_false, reduceCtorEq, Bool.false_eq_true, if_true, if_false, ite_true, ite_false, exists_const, eq_self, false_and, and_false, or_false, false_or, exists_false, Evl.rLenS, rSum, wipe, tYes, exists_eq, exists_eq', rIxL, rIxT, rIxS, exists_and_right, gt_iff_lt, not_true_eq_false, not_false_eq_true, Bool.not_true, Bool.not_false, decide_eq_true_eq, Nat.reduceSub, Nat.reduceAdd, List.append_assoc, tChain, tDIn, tDNotIn, sDDel, tAug, ipI, Option.isSome]
          refine ⟨_, sq_t eb2, _, atI_of (by decide) rfl, _, DPut.k (k := Sum.inr n) ho2 ?_, hs ++ [n], _, _, _, rfl, ?_, hh.lock el hn, fine_next hf ?_, k02.wr no⟩
          · unfold hdK; rw [List.length_map]; exact smallL (by have := hh.sz; omega)
          · rw [upd_same, hdK_put hn]
          · intro b' n' z
            rw [el] at z; cases z
            rw [hh.c, if_neg hn]; rfl
      · try simp (maxSteps := 1000000) only [tSeq, tIfS, tTest, tOp, tUn, tCB, tCons, tNil, tVar, tC, rI0, rI, rU, rEq, rNe, tRet, tRetN, tAsg, gName, gSub, tBM, tBM0, tNext, tB, tNot, tAnd, tOr, tIf, tCall, tDrop, tBreak, tCont, L2.start, tDGet, sDPut, tTup, tLst, tDNewK, tRevL, rCat, rAppend, rPop, rSetL, tAndV, tOrV, tNotV, tSl, tPart, tNoPart, tM1, gTup, gCons, gNil, cxK, cxnK, List.map_cons, List.map_nil, List.length_cons, List.length_nil, List.replicate, List.cons_append, List.nil_append, List.append_nil, List.set_cons_zero, List.set_cons_succ, List.getElem?_cons_zero, List.getElem?_cons_succ, Option.some.injEq, V.ref.injEq, V.int.injEq, V.str.injEq, V.bl.injEq, V.ty.injEq, exists_eq_left', exists_eq_left, exists_and_left, List.cons.injEq, and_true, true_and, sc_ii, sc_ss, sc_bb, sc_ni, sc_in, sc_is, sc_si, sc_nn, decide_true, decide_false, reduceCtorEq, Bool.false_eq_true, if_true, if_false, ite_true, ite_false, exists_const, eq_self, false_and, and_false, or_false, false_or, exists_false, Evl.rLenS, rSum, wipe, tYes, exists_eq, exists_eq', rIxL, rIxT, rIxS, exists_and_right, gt_iff_lt, not_true_eq_false, not_false_eq_true, Bool.not_true, Bool.not_false, decide_eq_true_eq, Nat.reduceSub, Nat.reduceAdd, List.append_assoc, tChain, tDIn, tDNotIn, sDDel, tAug, ipI, beq_self_eq_true, Bool.true_or, Bool.or_true]
        refine ⟨_, sq_t eb2, _, atI_of (by decide) rfl, _, DGet.k (k := Sum.inr n) ho2, ?_⟩
        rw [hdK_val]
        have fl : (Str.ofString "free" = Str.ofString "lock") = False := eq_false free_lock
        by_cases hn : n ∈ hs
        · rw [if_pos hn]
          try simp (maxSteps := 1000000) only [tSeq, tIfS, tTest, tOp, tUn, tCB, tCons, tNil, tVar, tC, rI0, rI, rU, rEq, rNe, tRet, tRetN, tAsg, gName, gSub, tBM, tBM0, tNext, tB, tNot, tAnd, tOr, tIf, tCall, tDrop, tBreak, tCont, L2.start, tDGet, sDPut, tTup, tLst, tDNewK, tRevL, rCat, rAppend, rPop, rSetL, tAndV, tOrV, tNotV, tSl, tPart, tNoPart, tM1, gTup, gCons, gNil, cxK, cxnK, List.map_cons, List.map_nil, List.length_cons, List.length_nil, List.replicate, List.cons_append, List.nil_append, List.append_nil, List.set_cons_zero, List.set_cons_succ, List.getElem?_cons_zero, List.getElem?_cons_succ, Option.some.injEq, V.ref.injEq, V.int.injEq, V.str.injEq, V.bl.injEq, V.ty.injEq, exists_eq_left', exists_eq_left, exists_and_left, List.cons.injEq, and_true, true_and, sc_ii, sc_ss, sc_bb, sc_ni, sc_in, sc_is, sc_si, sc_nn, decide_true, decide_false, reduceCtorEq, Bool.false_eq_true, if_true, if_false, ite_true, ite_false, exists_const, eq_self, false_and, and_false, or_false, false_or, exists_false, Evl.rLenS, rSum, wipe, tYes, exists_eq, exists_eq', rIxL, rIxT, rIxS, exists_and_right, gt_iff_lt, not_true_eq_false, not_false_eq_true, Bool.not_true, Bool.not_false, decide_eq_true_eq, Nat.reduceSub, Nat.reduceAdd, List.append_assoc, tChain, tDIn, tDNotIn, sDDel, tAug, ipI, fl, Option.isSome]
          refine ⟨_, sq_t eb2, _, atI_of (by decide) rfl, _, ho2, Sum.inr n, rfl, by rw [hdK_val, if_pos hn], hs.filter (fun m => decide (m ≠ n)), _, _, _, rfl, ?_, hh.free el hn, fine_next hf ?_, k02.wr no⟩
          · rw [upd_same, hdK_drop]
          · intro b' n' z
            rw [el] at z; cases z
            rw [hh.c, if_pos hn]; rfl
        · rw [if_neg hn]
          try simp (maxSteps := 1000000) only [tSeq, tIfS, tTest, tOp, tUn, tCB, tCons, tNil, tVar, tC, rI0, rI, rU, rEq, rNe, tRet, tRetN, tAsg, gName, gSub, tBM, tBM0, tNext, tB, tNot, tAnd, tOr, tIf, tCall, tDrop, tBreak, tCont, L2.start, tDGet, sDPut, tTup, tLst, tDNewK, tRevL, rCat, rAppend, rPop, rSetL, tAndV, tOrV, tNotV, tSl, tPart, tNoPart, tM1, gTup, gCons, gNil, cxK, cxnK, List.map_cons, List.map_nil, List.length_cons, List.length_nil, List.replicate, List.cons_append, List.nil_append, List.append_nil, List.set_cons_zero, List.set_cons_succ, List.getElem?_cons_zero, List.getElem?_cons_succ, Option.some.injEq, V.ref.injEq, V.int.injEq, V.str.injEq, V.bl.injEq, V.ty.injEq, exists_eq_left', exists_eq_left, exists_and_left, List.cons.injEq, and_true, true_and, sc_ii, sc_ss, sc_bb, sc_ni, sc_in, sc_is, sc_si, sc_nn, decide_true, decide_false, reduceCtorEq, Bool.false_eq_true, if_true, if_false, ite_true, ite_false, exists_const, eq_self, false_and, and_false, or_false, false_or, exists_false, Evl.rLenS, rSum, wipe, tYes, exists_eq, exists_eq', rIxL, rIxT, rIxS, exists_and_right, gt_iff_lt, not_true_eq_false, not_false_eq_true, Bool.not_true, Bool.not_false, decide_eq_true_eq, Nat.reduceSub, Nat.reduceAdd, List.append_assoc, tChain, tDIn, tDNotIn, sDDel, tAug, ipI, fl, Option.isSome]
          refine q (some i) _ (.bad i (by rw [← hst.1]; exact hi) hf fun g => ?_) k02
          have z := g _ _ el
          rw [hh.c, if_neg hn] at z
          cases z
    · rintro σ H1 ⟨hs, c1, c2, c3, rfl, ho, hh, hf, kp⟩
      try simp (maxSteps := 1000000) only [tSeq, tIfS, tTest, tOp, tUn, tCB, tCons, tNil, tVar, tC, rI0, rI, rU, rEq, rNe, tRet, tRetN, tAsg, gName, gSub, tBM, tBM0, tNext, tB, tNot, tAnd, tOr, tIf, tCall, tDrop, tBreak, tCont, L2.start, tDGet, sDPut, tTup, tLst, tDNewK, tRevL, rCat, rAppend, rPop, rSetL, tAndV, tOrV, tNotV, tSl, tPart, tNoPart, tM1, gTup, gCons, gNil, cxK, cxnK, List.map_cons, List.map_nil, List.length_cons, List.length_nil, List.replicate, List.cons_append, List.nil_append, List.append_nil, List.set_cons_zero, List.set_cons_succ, List.getElem?_cons_zero, List.getElem?_cons_succ, Option.some.injEq, V.ref.injEq, V.int.injEq, V.str.injEq, V.bl.injEq, V.ty.injEq, exists_eq_left', exists_eq_left, exists_and_left, List.cons.injEq, and_true, true_and, sc_ii, sc_ss, sc_bb, sc_ni, sc_in, sc_is, sc_si, sc_nn, decide_true, decide_false, reduceCtorEq, Bool.false_eq_true, if_true, if_false, ite_true, ite_false, exists_const, eq_self, false_and, and_false, or_false, false_or, exists_false, Evl.rLenS, rSum, wipe, tYes, exists_eq, exists_eq', rIxL, rIxT, rIxS, exists_and_right, gt_iff_lt, not_true_eq_false, not_false_eq_true, Bool.not_true, Bool.not_false, decide_eq_true_eq, Nat.reduceSub, Nat.reduceAdd, List.append_assoc, tChain, tDIn, tDNotIn, sDDel, tAug, ipI]
      rw [hst.1] at hh hf
      refine ⟨!hs.isEmpty, .inr (.inr ⟨_, ho, by cases hs <;> rfl⟩), ?_⟩
      cases hs with
      | nil =>
        try simp (maxSteps := 1000000) only [tSeq, tIfS, tTest, tOp, tUn, tCB, tCons, tNil, tVar, tC, rI0, rI, rU, rEq, rNe, tRet, tRetN, tAsg, gName, gSub, tBM, tBM0, tNext, tB, tNot, tAnd, tOr, tIf, tCall, tDrop, tBreak, tCont, L2.start, tDGet, sDPut, tTup, tLst, tDNewK, tRevL, rCat, rAppend, rPop, rSetL, tAndV, tOrV, tNotV, tSl, tPart, tNoPart, tM1, gTup, gCons, gNil, cxK, cxnK, List.map_cons, List.map_nil, List.length_cons, List.length_nil, List.replicate, List.cons_append, List.nil_append, List.append_nil, List.set_cons_zero, List.set_cons_succ, List.getElem?_cons_zero, List.getElem?_cons_succ, Option.some.injEq, V.ref.injEq, V.int.injEq, V.str.injEq, V.bl.injEq, V.ty.injEq, exists_eq_left', exists_eq_left, exists_and_left, List.cons.injEq, and_true, true_and, sc_ii, sc_ss, sc_bb, sc_ni, sc_in, sc_is, sc_si, sc_nn, decide_true, decide_false, reduceCtorEq, Bool.false_eq_true, if_true, if_false, ite_true, ite_false, exists_const, eq_self, false_and, and_false, or_false, false_or, exists_false, Evl.rLenS, rSum, wipe, tYes, exists_eq, exists_eq', rIxL, rIxT, rIxS, exists_and_right, gt_iff_lt, not_true_eq_false, not_false_eq_true, Bool.not_true, Bool.not_false, decide_eq_true_eq, Nat.reduceSub, Nat.reduceAdd, List.append_assoc, tChain, tDIn, tDNotIn, sDDel, tAug, ipI, List.isEmpty]
        exact q none H1 (.good hf fun n => by rw [hh.c]; rfl) kp
      | cons n r =>
        try simp (maxSteps := 1000000) only [tSeq, tIfS, tTest, tOp, tUn, tCB, tCons, tNil, tVar, tC, rI0, rI, rU, rEq, rNe, tRet, tRetN, tAsg, gName, gSub, tBM, tBM0, tNext, tB, tNot, tAnd, tOr, tIf, tCall, tDrop, tBreak, tCont, L2.start, tDGet, sDPut, tTup, tLst, tDNewK, tRevL, rCat, rAppend, rPop, rSetL, tAndV, tOrV, tNotV, tSl, tPart, tNoPart, tM1, gTup, gCons, gNil, cxK, cxnK, List.map_cons, List.map_nil, List.length_cons, List.length_nil, List.replicate, List.cons_append, List.nil_append, List.append_nil, List.set_cons_zero, List.set_cons_succ, List.getElem?_cons_zero, List.getElem?_cons_succ, Option.some.injEq, V.ref.injEq, V.int.injEq, V.str.injEq, V.bl.injEq, V.ty.injEq, exists_eq_left', exists_eq_left, exists_and_left, List.cons.injEq, and_true, true_and, sc_ii, sc_ss, sc_bb, sc_ni, sc_in, sc_is, sc_si, sc_nn, decide_true, decide_false, reduceCtorEq, Bool.false_eq_true, if_true, if_false, ite_true, ite_false, exists_const, eq_self, false_and, and_false, or_false, false_or, exists_false, Evl.rLenS, rSum, wipe, tYes, exists_eq, exists_eq', rIxL, rIxT, rIxS, exists_and_right, gt_iff_lt, not_true_eq_false, not_false_eq_true, Bool.not_true, Bool.not_false, decide_eq_true_eq, Nat.reduceSub, Nat.reduceAdd, List.append_assoc, tChain, tDIn, tDNotIn, sDDel, tAug, ipI, List.isEmpty]
        refine ⟨xs, .inl (kp.ls not0 hS), ?_⟩
        rw [hst.1]
        refine q (some ls.length) H1 (.held hf ⟨n, ?_⟩) kp
        rw [hh.c, if_pos List.mem_cons_self]
        decide
end
/-! ### sections_of -/
end My

set_option Elab.async false
set_option linter.all false
set_option maxRecDepth 100000
set_option maxHeartbeats 4000000
namespace My
open PySem L2 NdefX
def mtop (i j : Nat) : Stmt := match top i with
  | .ClassDef _ _ _ b _ _ _ _ _ _ _ => b.getD j (.Pass ⟨0, 0, 0, 0⟩)
  | _ => .Pass ⟨0, 0, 0, 0⟩
abbrev s_BadStep_init : Stmt := mtop 5 0
theorem sc_BadStep_init : NScope ["self", "name", "at", "__class__"] ["self", "name", "at"] ["__class__"] (defScope s_BadStep_init) := nscope_by (by decide +kernel)
theorem len_appE (x y : Str) : (x ++ y).length = x.length + y.length := Array.size_append
def NmAt (v u : V) : Prop := ∃ (z : Str) (i : Int), v = .str z ∧ z.length ≤ 1000 ∧ u = .int i ∧ 0 ≤ i ∧ i ≤ 1000
section
variable {P : Program} {w : World} {K : PySem.W.Frag} {mg : Str → Option Value} {base : Heap} {CX : CXT}
theorem ok_BadStep_init {f cc cda C : Addr} {fd : FuncData} (F : FunX K "__init__" "BadStep.__init__" s_BadStep_init f fd cc cda C) (T : ErrC K C) (G : CodeF K P cda) (hsup : mg "super" = none) (n1 : PySem.W.findIn K (.ref C) "name" = some none) (n2 : PySem.W.findIn K (.ref C) "at" = some none) :
    FnOk P w K mg base CX 1 f fd ["self", "name", "at"] (spErr2 C "name" "at" NmAt) := by
  have F0 := F
  obtain ⟨oc, od, kV, doc, pm, an, ct, osl, hfd, lk, hcd⟩ := F0.ex
  obtain ⟨cl, cld, csl, hcc⟩ := F0.cell
  refine F.ok sc_BadStep_init (fun vs H Q E h => ?_) (fun A outer s H vs Q E hr h => ?_)
  · obtain ⟨a, v, u, rfl, _⟩ := h
    rfl
  · obtain ⟨a, v, u, rfl, hp, ha, q⟩ := h
    refine ⟨_, psat_cons (psat_sup T G lk (by rw [hfd]; rfl) hcc hsup rfl rfl rfl rfl rfl rfl rfl (pa_cons (pe_joined (.cons pe_str (.cons (pe_fmt (pv 2)) (.cons pe_str (.cons (pe_fmt (pv 1)) (.cons pe_str .nil)))))) pa_nil) rfl rfl rfl rfl rfl) (pss_cons (ps_ost (pv 0) (pv 1)) (pss_one (ps_ost (pv 0) (pv 2)))), ?_⟩
    obtain ⟨z, i, rfl, zl, rfl, i0, i1⟩ := hp
    have il : i.natAbs.log2 < 1920 := by
      by_cases e0 : i.natAbs = 0
      · rw [e0]; decide
      rw [Nat.log2_lt e0]
      have h0 : (1000 : Nat) < 2 ^ 1920 := by decide +kernel
      omega
    have tl := PyProof.Rows.int_text_len_1921 il
    have z0 : Str.empty.length = 0 := rfl
    have s5 : (Str.ofString "step ").length = 5 := by decide +kernel
    have s14 : (Str.ofString " of operation ").length = 14 := by decide +kernel
    have s9 : (Str.ofString " is wrong").length = 9 := by decide +kernel
    try simp (maxSteps := 1000000) only [tSeq, tIfS, tTest, tOp, tUn, tCB, tCons, tNil, tVar, tC, rI0, rI, rU, rEq, rNe, tRet, tRetN, tAsg, gName, gSub, tBM, tBM0, tNext, tB, tNot, tAnd, tOr, tIf, tCall, tDrop, tBreak, tCont, L2.start, tDGet, sDPut, tTup, tLst, tDNewK, tRevL, rCat, rAppend, rPop, rSetL, tAndV, tOrV, tNotV, tSl, tPart, tNoPart, tM1, gTup, gCons, gNil, cxK, cxnK, List.map_cons, List.map_nil, List.length_cons, List.length_nil, List.replicate, List.cons_append, List.nil_append, List.append_nil, List.set_cons_zero, List.set_cons_succ, List.getElem?_cons_zero, List.getElem?_cons_succ, Option.some.injEq, V.ref.injEq, V.int.injEq, V.str.injEq, V.bl.injEq, V.ty.injEq, exists_eq_left', exists_eq_left, exists_and_left, List.cons.injEq, and_true, true_and, sc_ii, sc_ss, sc_bb, sc_ni, sc_in, sc_is, sc_si, sc_nn, decide_true, decide_false, reduceCtorEq, Bool.false_eq_true, if_true, if_false, ite_true, ite_false, exists_const, eq_self, false_and, and_false, or_false, false_or, exists_false, Evl.rLenS, rSum, wipe, tYes, exists_eq, exists_eq', rIxL, rIxT, rIxS, exists_and_right, gt_iff_lt, not_true_eq_false, not_false_eq_true, Bool.not_true, Bool.not_false, decide_eq_true_eq, Nat.reduceSub, Nat.reduceAdd, List.append_assoc, tChain, tDIn, tDNotIn, sDDel, tAug, ipI, startF, tSupI, tJs, tFmt, tOst]
    have le : ∀ {x : Str}, x.length ≤ 100000 → x.length ≤ sizeLine := fun h => small h
    refine ⟨ha, le ?_, il, le ?_, le ?_, le (by omega), le ?_, le ?_, by decide, ha, C, T.ox, n1, .inl ⟨ha, fun dx nd hne => ⟨C, T.ox, n2, .inr ⟨dx, upd_same, _, by rw [upd_ne hne]; exact upd_same, by simp, q dx nd hne⟩⟩⟩⟩
    all_goals (simp only [len_appE, z0, s5, s14, s9]; omega)
end
end My

set_option Elab.async false
set_option linter.all false
set_option maxRecDepth 100000
set_option maxHeartbeats 4000000
namespace My
open PySem L2
abbrev s_law_row : Stmt := top 25
theorem sc_law_row : FnScope ["_law_script", "_law_seed", "_law_row_here", "_law_cell", "_law_left", "_law_k"] ["_law_script"] (defScope s_law_row) := ⟨rfl, rfl, rfl, by decide +kernel, rfl, by decide +kernel, by decide +kernel⟩
abbrev s_law_draw : Stmt := top 26
theorem sc_law_draw : FnScope ["_law_row_here", "_law_many"] ["_law_row_here", "_law_many"] (defScope s_law_draw) := ⟨rfl, rfl, rfl, by decide +kernel, rfl, by decide +kernel, by decide +kernel⟩
abbrev s_law_word : Stmt := top 27
theorem sc_law_word : FnScope ["_law_row_here", "_law_size_here", "_law_letters", "_law_k"] ["_law_row_here", "_law_size_here"] (defScope s_law_word) := ⟨rfl, rfl, rfl, by decide +kernel, rfl, by decide +kernel, by decide +kernel⟩
abbrev s_law_names : Stmt := top 28
theorem sc_law_names : FnScope ["_law_row_here", "_law_many", "_law_letters", "_law_place_here", "_law_alike", "_law_start", "_law_head", "_law_tail", "_law_names_here", "_law_k"] ["_law_row_here", "_law_many"] (defScope s_law_names) := ⟨rfl, rfl, rfl, by decide +kernel, rfl, by decide +kernel, by decide +kernel⟩
/-! ### the row of drawn numbers -/
def RowAt (H : Hp) (a : Addr) : Prop := ∃ ns : List Int, H a = some (.lst (ns.map V.int)) ∧ ns ≠ [] ∧ ∀ x ∈ ns, 0 ≤ x ∧ x < 65521
structure Bt0 (mg : Str → Option Value) : Prop where
  b_len : mg "len" = none
  b_int : mg "int" = none
  b_abs : mg "abs" = none
  b_range : mg "range" = none
def spDraw : Sp := fun vs H Q _ => ∃ (a : Addr) (m : Int), vs = [.ref a, .int m] ∧ RowAt H a ∧ 0 < m ∧ ∀ (r : Int) (H' : Hp), 0 ≤ r → r < m → RowAt H' a → Kp [a] H H' → Q (.int r) H'
section
variable {P : Program} {w : World} {K : PySem.W.Frag} {mg : Str → Option Value} {base : Heap}
theorem ok_law_draw {f : Addr} {fd : FuncData} (D : Df K mg "_law_draw" s_law_draw ["_law_row_here", "_law_many"] f fd) (T : Bt0 mg) : FnOk P w K mg base CX0 1 f fd ["_law_row_here", "_law_many"] spDraw := by
  refine D.F.ok sc_law_draw (fun vs H Q E h => ?_) (fun cdv A outer s H vs Q E hr h => ?_)
  · obtain ⟨a, m, rfl, _⟩ := h
    rfl
  · obtain ⟨a, m, rfl, ⟨ns, hH, hne, hb⟩, hm, q⟩ := h
    have hu := hu_of hr
    refine ⟨_, (pss_cons (ps_if (pt_cmpR op_gt (pe_callB (id := "len") (r := Evl.rLenS K) call_len_seq (by rfl) T.b_len PySem.boot_len (pa_cons (pv 0) pa_nil)) pe_int (nomark _)) (pss_one (ps_ret (pe_op op_mod (pe_callTy (T := "int") call_int1 (by rfl) T.b_int (by decide +kernel) (pa_cons (pe_bm0 PySem.F.plainAttrs_list PySem.F.slot_list_pop PySem.F.type_list_pop mt_pop (pv 0)) pa_nil)) (pv 1)))) pss_nil)
      (pss_cons (ps_asg (pe_op op_mod (pe_callTy (T := "int") call_int1 (by rfl) T.b_int (by decide +kernel) (pa_cons (pe_op op_mul (pe_ix (r := rIxL K) ix_list (pv 0) pe_int (fun _ _ => rfl)) pe_int) pa_nil)) pe_int) (pg_sub (pv 0) pe_int set_list))
      (pss_one (ps_ret (pe_op op_mod (pe_callTy (T := "int") call_int1 (by rfl) T.b_int (by decide +kernel) (pa_cons (pe_op op_fdiv (pe_ix (r := rIxL K) ix_list (pv 0) pe_int (fun _ _ => rfl)) pe_int) pa_nil)) (pv 1)))))), ?_⟩
    try simp (maxSteps := 1000000) only [tSeq, tIfS, tTest, tOp, tUn, tCB, tCons, tNil, tVar, tC, rI0, rI, rU, rEq, rNe, tRet, tRetN, tAsg, gName, gSub, tBM, tBM0, tNext, tB, tNot, tAnd, tOr, tIf, tCall, tDrop, tBreak, tCont, L2.start, tDGet, sDPut, tTup, tLst, tDNewK, tRevL, rCat, rAppend, rPop, rSetL, tAndV, tOrV, tNotV, tSl, tPart, tNoPart, tM1, gTup, gCons, gNil, cxK, cxnK, List.map_cons, List.map_nil, List.length_cons, List.length_nil, List.replicate, List.cons_append, List.nil_append, List.append_nil, List.set_cons_zero, List.set_cons_succ, List.getElem?_cons_zero, List.getElem?_cons_succ, Option.some.injEq, V.ref.injEq, V.int.injEq, V.str.injEq, V.bl.injEq, V.ty.injEq, exists_eq_left', exists_eq_left, exists_and_left, List.cons.injEq, and_true, true_and, sc_ii, sc_ss, sc_bb, sc_ni, sc_in, sc_is, sc_si, sc_nn, decide_true, decide_false, reduceCtorEq, Bool.false_eq_true, if_true, if_false, ite_true, ite_false, exists_const, eq_self, false_and, and_false, or_false, false_or, exists_false, Evl.rLenS, rSum, wipe, tYes, exists_eq, exists_eq', rIxL, rIxT, rIxS, exists_and_right, gt_iff_lt, not_true_eq_false, not_false_eq_true, Bool.not_true, Bool.not_false, decide_eq_true_eq, Nat.reduceSub, Nat.reduceAdd, List.append_assoc, tChain, tDIn, tDNotIn, sDDel, tAug, ipI]
    refine ⟨_, .inl (sq_l hH), ?_⟩
    refine ite2 (fun h1 => ?_) (fun h1 => ?_)
    · rw [List.length_map] at h1
      have e : (ns.map V.int)[(ns.map V.int).length - 1]? = some (V.int (ns.getLast hne)) := by
        rw [List.length_map, List.getElem?_map, ← List.getLast?_eq_getElem?, List.getLast?_eq_some_getLast hne]
        rfl
      refine ⟨.inl ⟨rfl, _, sq_l hH⟩, _, hH, _, e, ?_⟩
      try simp (maxSteps := 1000000) only [tSeq, tIfS, tTest, tOp, tUn, tCB, tCons, tNil, tVar, tC, rI0, rI, rU, rEq, rNe, tRet, tRetN, tAsg, gName, gSub, tBM, tBM0, tNext, tB, tNot, tAnd, tOr, tIf, tCall, tDrop, tBreak, tCont, L2.start, tDGet, sDPut, tTup, tLst, tDNewK, tRevL, rCat, rAppend, rPop, rSetL, tAndV, tOrV, tNotV, tSl, tPart, tNoPart, tM1, gTup, gCons, gNil, cxK, cxnK, List.map_cons, List.map_nil, List.length_cons, List.length_nil, List.replicate, List.cons_append, List.nil_append, List.append_nil, List.set_cons_zero, List.set_cons_succ, List.getElem?_cons_zero, List.getElem?_cons_succ, Option.some.injEq, V.ref.injEq, V.int.injEq, V.str.injEq, V.bl.injEq, V.ty.injEq, exists_eq_left', exists_eq_left, exists_and_left, List.cons.injEq, and_true, true_and, sc_ii, sc_ss, sc_bb, sc_ni, sc_in, sc_is, sc_si, sc_nn, decide_true, decide_false, reduceCtorEq, Bool.false_eq_true, if_true, if_false, ite_true, ite_false, exists_const, eq_self, false_and, and_false, or_false, false_or, exists_false, Evl.rLenS, rSum, wipe, tYes, exists_eq, exists_eq', rIxL, rIxT, rIxS, exists_and_right, gt_iff_lt, not_true_eq_false, not_false_eq_true, Bool.not_true, Bool.not_false, decide_eq_true_eq, Nat.reduceSub, Nat.reduceAdd, List.append_assoc, tChain, tDIn, tDNotIn, sDDel, tAug, ipI]
      refine ⟨hm, q _ _ (Int.emod_nonneg _ (by omega)) (Int.emod_lt_of_pos _ hm) ⟨ns.dropLast, ?_, ?_, fun x hx => hb x (List.dropLast_subset _ hx)⟩ ((Kp.refl _ _).put (List.mem_singleton.mpr rfl))⟩
      · rw [upd_same, List.map_dropLast]
      · intro z
        have := congrArg List.length z
        rw [List.length_dropLast, List.length_nil] at this
        omega
    · obtain ⟨n0, r, rfl⟩ : ∃ n0 r, ns = n0 :: r := by
        cases ns with
        | nil => exact absurd rfl hne
        | cons a b => exact ⟨a, b, rfl⟩
      have b0 := hb n0 (List.mem_cons_self)
      refine ⟨_, sq_l hH, _, atI_of (by decide) rfl, ?_⟩
      try simp (maxSteps := 1000000) only [tSeq, tIfS, tTest, tOp, tUn, tCB, tCons, tNil, tVar, tC, rI0, rI, rU, rEq, rNe, tRet, tRetN, tAsg, gName, gSub, tBM, tBM0, tNext, tB, tNot, tAnd, tOr, tIf, tCall, tDrop, tBreak, tCont, L2.start, tDGet, sDPut, tTup, tLst, tDNewK, tRevL, rCat, rAppend, rPop, rSetL, tAndV, tOrV, tNotV, tSl, tPart, tNoPart, tM1, gTup, gCons, gNil, cxK, cxnK, List.map_cons, List.map_nil, List.length_cons, List.length_nil, List.replicate, List.cons_append, List.nil_append, List.append_nil, List.set_cons_zero, List.set_cons_succ, List.getElem?_cons_zero, List.getElem?_cons_succ, Option.some.injEq, V.ref.injEq, V.int.injEq, V.str.injEq, V.bl.injEq, V.ty.injEq, exists_eq_left', exists_eq_left, exists_and_left, List.cons.injEq, and_true, true_and, sc_ii, sc_ss, sc_bb, sc_ni, sc_in, sc_is, sc_si, sc_nn, decide_true, decide_false, reduceCtorEq, Bool.false_eq_true, if_true, if_false, ite_true, ite_false, exists_const, eq_self, false_and, and_false, or_false, false_or, exists_false, Evl.rLenS, rSum, wipe, tYes, exists_eq, exists_eq', rIxL, rIxT, rIxS, exists_and_right, gt_iff_lt, not_true_eq_false, not_false_eq_true, Bool.not_true, Bool.not_false, decide_eq_true_eq, Nat.reduceSub, Nat.reduceAdd, List.append_assoc, tChain, tDIn, tDNotIn, sDDel, tAug, ipI]
      refine ⟨.inl ⟨by omega, by omega⟩, by decide, _, hH, 0, ixN_of (by decide) (by rw [List.length_map, List.length_cons]; omega), ?_⟩
      refine ⟨_, sq_l upd_same, _, atI_of (by decide) rfl, ?_⟩
      try simp (maxSteps := 1000000) only [tSeq, tIfS, tTest, tOp, tUn, tCB, tCons, tNil, tVar, tC, rI0, rI, rU, rEq, rNe, tRet, tRetN, tAsg, gName, gSub, tBM, tBM0, tNext, tB, tNot, tAnd, tOr, tIf, tCall, tDrop, tBreak, tCont, L2.start, tDGet, sDPut, tTup, tLst, tDNewK, tRevL, rCat, rAppend, rPop, rSetL, tAndV, tOrV, tNotV, tSl, tPart, tNoPart, tM1, gTup, gCons, gNil, cxK, cxnK, List.map_cons, List.map_nil, List.length_cons, List.length_nil, List.replicate, List.cons_append, List.nil_append, List.append_nil, List.set_cons_zero, List.set_cons_succ, List.getElem?_cons_zero, List.getElem?_cons_succ, Option.some.injEq, V.ref.injEq, V.int.injEq, V.str.injEq, V.bl.injEq, V.ty.injEq, exists_eq_left', exists_eq_left, exists_and_left, List.cons.injEq, and_true, true_and, sc_ii, sc_ss, sc_bb, sc_ni, sc_in, sc_is, sc_si, sc_nn, decide_true, decide_false, reduceCtorEq, Bool.false_eq_true, if_true, if_false, ite_true, ite_false, exists_const, eq_self, false_and, and_false, or_false, false_or, exists_false, Evl.rLenS, rSum, wipe, tYes, exists_eq, exists_eq', rIxL, rIxT, rIxS, exists_and_right, gt_iff_lt, not_true_eq_false, not_false_eq_true, Bool.not_true, Bool.not_false, decide_eq_true_eq, Nat.reduceSub, Nat.reduceAdd, List.append_assoc, tChain, tDIn, tDNotIn, sDDel, tAug, ipI]
      refine ⟨⟨by decide, by decide⟩, hm, q _ _ (Int.emod_nonneg _ (by omega)) (Int.emod_lt_of_pos _ hm) ⟨n0 * 131 % 65521 :: r, upd_same, by simp, fun x hx => ?_⟩ ((Kp.refl _ _).put (List.mem_singleton.mpr rfl))⟩
      rcases List.mem_cons.mp hx with rfl | hx
      · omega
      · exact hb x (List.mem_cons_of_mem _ hx)

/-! ### the row -/
def spRow (K : PySem.W.Frag) : Sp := fun vs H Q _ => ∃ (a : Addr) (ns : List Int), vs = [.ref a] ∧ SqL K H a (ns.map V.int) ∧ ns.length ≤ 63 ∧ ∀ (p : Addr) (H' : Hp), H p = none → RowAt H' p → Kp [] H H' → Q (.ref p) H'
/-- ahead of the j-th number of the script -/
def RowInv (H : Hp) (a o : Addr) (ns : List Int) (j : Nat) (σ : L2.St) (H2 : Hp) : Prop := ∃ (seed : Int) (rs : List Int) (c l k : Option V), σ = [some (.ref a), some (.int seed), some (.ref o), c, l, k] ∧ 0 ≤ seed ∧ seed ≤ 498897 ∧ (j ≠ 0 ∨ ns = [] → seed < 65521) ∧
  H2 o = some (.lst (rs.map V.int)) ∧ (∀ x ∈ rs, 0 ≤ x ∧ x < 65521) ∧ rs.length ≤ 61 * j ∧ Kp [] H H2
/-- within it, ahead of the i-th figure -/
def RowIn (H : Hp) (a o : Addr) (j : Nat) (seed : Int) (u : V) (i : Nat) (σ : L2.St) (H2 : Hp) : Prop := ∃ (rs : List Int) (l : Int) (k : Option V), σ = [some (.ref a), some (.int seed), some (.ref o), some u, some (.int l), k] ∧ 0 ≤ l ∧
  H2 o = some (.lst (rs.map V.int)) ∧ (∀ x ∈ rs, 0 ≤ x ∧ x < 65521) ∧ rs.length ≤ 61 * j + 1 + i ∧ Kp [] H H2
theorem mem_grown {rs : List Int} {v : Int} {m : Int} (hm : 0 < m) (hb : m ≤ 65521) (h : ∀ x ∈ rs, 0 ≤ x ∧ x < 65521) : ∀ x ∈ rs ++ [v % m], 0 ≤ x ∧ x < 65521 := by
  intro x hx
  rcases List.mem_append.mp hx with hx | hx
  · exact h x hx
  · rw [List.mem_singleton.mp hx]
    have h1 := Int.emod_nonneg v (show m ≠ 0 by omega)
    have h2 := Int.emod_lt_of_pos v hm
    omega
theorem ok_law_row {f : Addr} {fd : FuncData} (D : Df K mg "_law_row" s_law_row ["_law_script"] f fd) (T : Bt0 mg) : FnOk P w K mg base CX0 1 f fd ["_law_script"] (spRow K) := by
  refine D.F.ok sc_law_row (fun vs H Q E h => ?_) (fun cdv A outer s H vs Q E hr h => ?_)
  · obtain ⟨a, m, rfl, _⟩ := h
    rfl
  · obtain ⟨a, ns, rfl, hS, hl, q⟩ := h
    have hu := hu_of hr
    refine ⟨_, (pss_cons (ps_set (i := 1) sc_law_row.nd rfl (Or.inl rfl) (pe_op op_mul (pe_callB (id := "len") (r := Evl.rLenS K) call_len_seq (by rfl) T.b_len PySem.boot_len (pa_cons (pv 0) pa_nil)) pe_int))
      (pss_cons (ps_set (i := 2) sc_law_row.nd rfl (Or.inl rfl) (pe_lst pa_nil))
      (pss_cons (ps_for PassesOwn.never rfl (pi_list (pv 0)) (pg_name (i := 3) sc_law_row.nd rfl (Or.inl rfl)) (pss_cons (ps_set (i := 4) sc_law_row.nd rfl (Or.inl rfl) (pe_callB (id := "abs") call_abs (by rfl) T.b_abs (by decide +kernel) (pa_cons (pe_callTy (T := "int") call_int1 (by rfl) T.b_int (by decide +kernel) (pa_cons (pv 3) pa_nil)) pa_nil)))
      (pss_cons (ps_set (i := 1) sc_law_row.nd rfl (Or.inl rfl) (pe_op op_mod (pe_callTy (T := "int") call_int1 (by rfl) T.b_int (by decide +kernel) (pa_cons (pe_op op_add (pe_op op_mul (pv 1) pe_int) (pv 4)) pa_nil)) pe_int))
      (pss_cons (ps_if (pt_cmpR op_lt (pv 4) (pe_op op_pow pe_int pe_int) (nomark _)) (pss_cons (ps_expr (pe_bm PySem.F.plainAttrs_list PySem.F.slot_list_append PySem.F.type_list_append mt_append (pv 2) (pa_cons (pe_op op_mod (pe_callTy (T := "int") call_int1 (by rfl) T.b_int (by decide +kernel) (pa_cons (pv 4) pa_nil)) pe_int) pa_nil)))
      (pss_one (ps_set (i := 4) sc_law_row.nd rfl (Or.inl rfl) pe_int))) pss_nil)
      (pss_one (ps_for PassesOwn.never rfl (pi_range1 rfl T.b_range (pa_cons pe_int pa_nil)) (pg_name (i := 5) sc_law_row.nd rfl (Or.inl rfl)) (pss_cons (ps_if (pt_cmpR op_eq (pv 4) pe_int (nomark _)) (pss_one ps_break) pss_nil)
      (pss_cons (ps_expr (pe_bm PySem.F.plainAttrs_list PySem.F.slot_list_append PySem.F.type_list_append mt_append (pv 2) (pa_cons (pe_op op_mod (pe_callTy (T := "int") call_int1 (by rfl) T.b_int (by decide +kernel) (pa_cons (pv 4) pa_nil)) pe_int) pa_nil)))
      (pss_one (ps_set (i := 4) sc_law_row.nd rfl (Or.inl rfl) (pe_op op_fdiv (pv 4) pe_int)))))))))))
      (pss_one (ps_ret (pe_op op_cat (pe_lst (pa_cons (pv 1) pa_nil)) (pe_revL (pv 2)))))))), ?_⟩
    try simp (maxSteps := 1000000) only [tSeq, tIfS, tTest, tOp, tUn, tCB, tCons, tNil, tVar, tC, rI0, rI, rU, rEq, rNe, tRet, tRetN, tAsg, gName, gSub, tBM, tBM0, tNext, tB, tNot, tAnd, tOr, tIf, tCall, tDrop, tBreak, tCont, L2.start, tDGet, sDPut, tTup, tLst, tDNewK, tRevL, rCat, rAppend, rPop, rSetL, tAndV, tOrV, tNotV, tSl, tPart, tNoPart, tM1, gTup, gCons, gNil, cxK, cxnK, List.map_cons, List.map_nil, List.length_cons, List.length_nil, List.replicate, List.cons_append, List.nil_append, List.append_nil, List.set_cons_zero, List.set_cons_succ, List.getElem?_cons_zero, List.getElem?_cons_succ, Option.some.injEq, V.ref.injEq, V.int.injEq, V.str.injEq, V.bl.injEq, V.ty.injEq, exists_eq_left', exists_eq_left, exists_and_left, List.cons.injEq, and_true, true_and, sc_ii, sc_ss, sc_bb, sc_ni, sc_in, sc_is, sc_si, sc_nn, decide_true, decide_false, reduceCtorEq, Bool.false_eq_true, if_true, if_false, ite_true, ite_false, exists_const, eq_self, false_and, and_false, or_false, false_or, exists_false, Evl.rLenS, rSum, wipe, tYes, exists_eq, exists_eq', rIxL, rIxT, rIxS, exists_and_right, gt_iff_lt, not_true_eq_false, not_false_eq_true, Bool.not_true, Bool.not_false, decide_eq_true_eq, Nat.reduceSub, Nat.reduceAdd, List.append_assoc, tChain, tDIn, tDNotIn, sDDel, tAug, ipI]
    refine ⟨_, .inl hS, ?_⟩
    rw [List.length_map]
    refine ⟨.inr ⟨by decide, by decide⟩, small (by decide), fun o no => ?_⟩
    refine forL (K := K) (a := a) (xs := ns.map V.int) (RowInv H a o ns) rfl ((Kp.new no).ls not0 hS) ?_ ?_ ?_ ?_
    · refine ⟨_, [], none, none, none, rfl, by omega, by omega, ?_, upd_same, (fun x hx => nomatch hx), Nat.zero_le _, Kp.new no⟩
      rintro (h | h)
      · exact absurd rfl h
      · rw [h]; decide
    · rintro j σ H2 _ ⟨seed, rs, c, l, k, rfl, _, _, _, _, _, _, kp⟩
      exact kp.ls not0 hS
    · rintro j x σ H2 hx ⟨seed, rs, c, l, k, rfl, s0, s1, s2, ho, hrs, hln, kp⟩
      obtain ⟨u, hu2, rfl⟩ : ∃ u, ns[j]? = some u ∧ x = V.int u := by
        rw [List.getElem?_map] at hx
        cases e : ns[j]? with
        | none => rw [e] at hx; cases hx
        | some u => rw [e] at hx; exact ⟨u, rfl, (Option.some.inj hx).symm⟩
      have hj : j < 63 := by
        have := (List.getElem?_eq_some_iff.mp hu2).1
        omega
      try simp (maxSteps := 1000000) only [tSeq, tIfS, tTest, tOp, tUn, tCB, tCons, tNil, tVar, tC, rI0, rI, rU, rEq, rNe, tRet, tRetN, tAsg, gName, gSub, tBM, tBM0, tNext, tB, tNot, tAnd, tOr, tIf, tCall, tDrop, tBreak, tCont, L2.start, tDGet, sDPut, tTup, tLst, tDNewK, tRevL, rCat, rAppend, rPop, rSetL, tAndV, tOrV, tNotV, tSl, tPart, tNoPart, tM1, gTup, gCons, gNil, cxK, cxnK, List.map_cons, List.map_nil, List.length_cons, List.length_nil, List.replicate, List.cons_append, List.nil_append, List.append_nil, List.set_cons_zero, List.set_cons_succ, List.getElem?_cons_zero, List.getElem?_cons_succ, Option.some.injEq, V.ref.injEq, V.int.injEq, V.str.injEq, V.bl.injEq, V.ty.injEq, exists_eq_left', exists_eq_left, exists_and_left, List.cons.injEq, and_true, true_and, sc_ii, sc_ss, sc_bb, sc_ni, sc_in, sc_is, sc_si, sc_nn, decide_true, decide_false, reduceCtorEq, Bool.false_eq_true, if_true, if_false, ite_true, ite_false, exists_const, eq_self, false_and, and_false, or_false, false_or, exists_false, Evl.rLenS, rSum, wipe, tYes, exists_eq, exists_eq', rIxL, rIxT, rIxS, exists_and_right, gt_iff_lt, not_true_eq_false, not_false_eq_true, Bool.not_true, Bool.not_false, decide_eq_true_eq, Nat.reduceSub, Nat.reduceAdd, List.append_assoc, tChain, tDIn, tDNotIn, sDDel, tAug, ipI]
      generalize hv : (if u < 0 then -u else u) = v
      have v0 : 0 ≤ v := by
        rw [← hv]; split <;> omega
      refine ⟨.inl ⟨by omega, by omega⟩, by decide, ⟨by decide, by decide, by decide⟩, ?_⟩
      -- the loop over the figures, from any state of the kind
      have loop : ∀ (tb : TS) (D : Ends), (∀ i σ H4, i < 60 → RowIn H a o j ((seed * 31 + v) % 65521) (.int u) i σ H4 → (gName 5) (.int (0 + i)) σ H4 fun σ2 H2 => tb { D with nx := RowIn H a o j ((seed * 31 + v) % 65521) (.int u) (i + 1), ct := RowIn H a o j ((seed * 31 + v) % 65521) (.int u) (i + 1), bk := D.nx } σ2 H2) →
          (∀ i, i ≤ 60 → ∀ σ H4, RowIn H a o j ((seed * 31 + v) % 65521) (.int u) i σ H4 → D.nx σ H4) → ∀ σ H3, RowIn H a o j ((seed * 31 + v) % 65521) (.int u) 0 σ H3 → tFor (iRng1 (tCons (tC (V.int 60)) tNil)) (gName 5) tb D σ H3 := by
        intro tb D turn after σ H3 h3
        exact ⟨60, rfl, by decide, by decide, for_range (lo := 0) (n := 60) (RowIn H a o j ((seed * 31 + v) % 65521) (.int u)) h3 turn (after 60 (Nat.le_refl _))⟩
      have fin : ∀ i, i ≤ 60 → ∀ σ H4, RowIn H a o j ((seed * 31 + v) % 65521) (.int u) i σ H4 → RowInv H a o ns (j + 1) σ H4 := by
        rintro i hi σ H4 ⟨rs3, l3, k3, rfl, z0, z1, z2, z3, z4⟩
        have e0 : 0 ≤ (seed * 31 + v) % 65521 := by omega
        have e1 : (seed * 31 + v) % 65521 < 65521 := by omega
        exact ⟨_, rs3, _, _, _, rfl, e0, by omega, fun _ => e1, z1, z2, by omega, z4⟩
      have turn : ∀ (i : Nat) (σ : L2.St) (H4 : Hp) (Bk : L2.St → Hp → Prop) (Rt : VK), i < 60 → (∀ i, i ≤ 60 → ∀ σ H4, RowIn H a o j ((seed * 31 + v) % 65521) (.int u) i σ H4 → Bk σ H4) → RowIn H a o j ((seed * 31 + v) % 65521) (.int u) i σ H4 → (gName 5) (.int (0 + i)) σ H4 fun σ2 H2 =>
          (tSeq (tIfS (tTest (tOp rEq (tVar 4) (tC (V.int 0)))) tBreak tNext)
            (tSeq (tDrop (tBM K "list" rAppend (tVar 2) (tCons (tOp (rI (fun x j => 0 < j) fun i j => V.int (i % j)) (tCB (fun xs H Q => (∃ i, xs = [V.int i] ∧ Q (V.int i) H) ∨ ∃ k, xs = [V.bl k] ∧ Q (V.int (if k = true then 1 else 0)) H) (tCons (tVar 4) tNil)) (tC (V.int 1000))) tNil)))
              (tAsg (tOp (rI CDiv fun i j => V.int (i / j)) (tVar 4) (tC (V.int 1000))) (gName 4)))) { nx := RowIn H a o j ((seed * 31 + v) % 65521) (.int u) (i + 1), ct := RowIn H a o j ((seed * 31 + v) % 65521) (.int u) (i + 1), bk := Bk, rt := Rt } σ2 H2 := by
        rintro i σ H4 Bk Rt hi brk ⟨rs3, l3, k3, rfl, z0, z1, z2, z3, z4⟩
        try simp (maxSteps := 1000000) only [tSeq, tIfS, tTest, tOp, tUn, tCB, tCons, tNil, tVar, tC, rI0, rI, rU, rEq, rNe, tRet, tRetN, tAsg, gName, gSub, tBM, tBM0, tNext, tB, tNot, tAnd, tOr, tIf, tCall, tDrop, tBreak, tCont, L2.start, tDGet, sDPut, tTup, tLst, tDNewK, tRevL, rCat, rAppend, rPop, rSetL, tAndV, tOrV, tNotV, tSl, tPart, tNoPart, tM1, gTup, gCons, gNil, cxK, cxnK, List.map_cons, List.map_nil, List.length_cons, List.length_nil, List.replicate, List.cons_append, List.nil_append, List.append_nil, List.set_cons_zero, List.set_cons_succ, List.getElem?_cons_zero, List.getElem?_cons_succ, Option.some.injEq, V.ref.injEq, V.int.injEq, V.str.injEq, V.bl.injEq, V.ty.injEq, exists_eq_left', exists_eq_left, exists_and_left, List.cons.injEq, and_true, true_and, sc_ii, sc_ss, sc_bb, sc_ni, sc_in, sc_is, sc_si, sc_nn, decide_true, decide_false, reduceCtorEq, Bool.false_eq_true, if_true, if_false, ite_true, ite_false, exists_const, eq_self, false_and, and_false, or_false, false_or, exists_false, Evl.rLenS, rSum, wipe, tYes, exists_eq, exists_eq', rIxL, rIxT, rIxS, exists_and_right, gt_iff_lt, not_true_eq_false, not_false_eq_true, Bool.not_true, Bool.not_false, decide_eq_true_eq, Nat.reduceSub, Nat.reduceAdd, List.append_assoc, tChain, tDIn, tDNotIn, sDDel, tAug, ipI]
        refine ite2 (fun hz => ?_) (fun hz => ?_)
        · exact brk i (by omega) _ _ ⟨rs3, l3, _, rfl, z0, z1, z2, z3, z4⟩
        · refine ⟨.inl ⟨rfl, _, sq_l z1⟩, by decide, _, z1, by rw [List.length_map]; exact smallL (by omega), ⟨by decide, by decide⟩, rs3 ++ [l3 % 1000], l3 / 1000, _, rfl, by omega, ?_, mem_grown (by decide) (by decide) z2, by rw [List.length_append, List.length_singleton]; omega, z4.wr no⟩
          rw [upd_same, List.map_append]; rfl
      refine ite2 (fun hlt => ?_) (fun hlt => ?_)
      · refine ⟨.inl ⟨rfl, _, sq_l ho⟩, by decide, _, ho, by rw [List.length_map]; exact smallL (by omega), ?_⟩
        refine loop _ _ (fun i σ H4 hi h4 => turn i σ H4 _ _ hi fin h4) fin _ _ ⟨rs ++ [v % 1000], 0, k, rfl, by decide, ?_, mem_grown (by decide) (by decide) hrs, by rw [List.length_append, List.length_singleton]; omega, kp.wr no⟩
        rw [upd_same, List.map_append]; rfl
      · exact loop _ _ (fun i σ H4 hi h4 => turn i σ H4 _ _ hi fin h4) fin _ _ ⟨rs, v, k, rfl, v0, ho, hrs, by omega, kp⟩
    · rintro σ H2 ⟨seed, rs, c, l, k, rfl, s0, s1, s2, ho, hrs, hln, kp⟩
      rw [List.length_map] at s2 hln
      have s3 : seed < 65521 := s2 (by
        cases ns with
        | nil => exact .inr rfl
        | cons x r => exact .inl (by simp))
      try simp (maxSteps := 1000000) only [tSeq, tIfS, tTest, tOp, tUn, tCB, tCons, tNil, tVar, tC, rI0, rI, rU, rEq, rNe, tRet, tRetN, tAsg, gName, gSub, tBM, tBM0, tNext, tB, tNot, tAnd, tOr, tIf, tCall, tDrop, tBreak, tCont, L2.start, tDGet, sDPut, tTup, tLst, tDNewK, tRevL, rCat, rAppend, rPop, rSetL, tAndV, tOrV, tNotV, tSl, tPart, tNoPart, tM1, gTup, gCons, gNil, cxK, cxnK, List.map_cons, List.map_nil, List.length_cons, List.length_nil, List.replicate, List.cons_append, List.nil_append, List.append_nil, List.set_cons_zero, List.set_cons_succ, List.getElem?_cons_zero, List.getElem?_cons_succ, Option.some.injEq, V.ref.injEq, V.int.injEq, V.str.injEq, V.bl.injEq, V.ty.injEq, exists_eq_left', exists_eq_left, exists_and_left, List.cons.injEq, and_true, true_and, sc_ii, sc_ss, sc_bb, sc_ni, sc_in, sc_is, sc_si, sc_nn, decide_true, decide_false, reduceCtorEq, Bool.false_eq_true, if_true, if_false, ite_true, ite_false, exists_const, eq_self, false_and, and_false, or_false, false_or, exists_false, Evl.rLenS, rSum, wipe, tYes, exists_eq, exists_eq', rIxL, rIxT, rIxS, exists_and_right, gt_iff_lt, not_true_eq_false, not_false_eq_true, Bool.not_true, Bool.not_false, decide_eq_true_eq, Nat.reduceSub, Nat.reduceAdd, List.append_assoc, tChain, tDIn, tDNotIn, sDDel, tAug, ipI]
      refine ⟨small (by decide), fun o1 n1 => ?_⟩
      have e1 : upd H2 o1 (.lst [.int seed]) o = some (.lst (rs.map V.int)) := by
        rw [upd_ne (ne_of_none ho n1)]; exact ho
      refine ⟨_, sq_l e1, fun o2 n2 => ?_⟩
      have no1 : o1 ≠ o2 := fun z => by rw [← z, upd_same] at n2; cases n2
      refine ⟨_, (by rw [upd_ne no1]; exact upd_same), _, upd_same, small (by simp; omega), fun o3 n3 => ?_⟩
      have k2 := ((kp.trans (Kp.new n1)).trans (Kp.new n2)).trans (Kp.new (o := .lst ([V.int seed] ++ (rs.map V.int).reverse)) n3)
      refine q o3 _ (((kp.trans (Kp.new n1)).trans (Kp.new n2)).free0 n3) ⟨seed :: rs.reverse, ?_, by simp, ?_⟩ k2
      · rw [upd_same]; simp
      · intro x hx
        rcases List.mem_cons.mp hx with rfl | hx
        · exact ⟨s0, s3⟩
        · exact hrs x (List.mem_reverse.mp hx)

/-! ### words -/
/-- letters from a to z alone -/
def Low (z : Str) : Prop := ∀ c ∈ z.cps.toList, 97 ≤ c ∧ c ≤ 122
theorem lets_at : ∀ i : Nat, i < 26 → lets.cps.toList[i]? = some (97 + i) := by decide +kernel
theorem lets_len : lets.length = 26 := by decide +kernel
theorem low1 {c : Nat} (h : 97 ≤ c ∧ c ≤ 122) : Low ⟨#[c]⟩ := fun d hd => by
  have e : d = c := by simpa using hd
  rw [e]; exact h
theorem low_app {x y : Str} (hx : Low x) (hy : Low y) : Low (x ++ y) := fun c hc => by
  have e : (x ++ y).cps.toList = x.cps.toList ++ y.cps.toList := Array.toList_append
  rw [e] at hc
  rcases List.mem_append.mp hc with h | h
  · exact hx c h
  · exact hy c h
theorem join_low : ∀ zs : List Str, (∀ z ∈ zs, z.length = 1 ∧ Low z) → (Str.join Str.empty zs).length = zs.length ∧ Low (Str.join Str.empty zs)
  | [], _ => ⟨rfl, fun c hc => nomatch hc⟩
  | [x], h => ⟨(h x (List.mem_singleton.mpr rfl)).1, (h x (List.mem_singleton.mpr rfl)).2⟩
  | x :: y :: r, h => by
    have ih := join_low (y :: r) fun z hz => h z (List.mem_cons_of_mem _ hz)
    have hx := h x (List.mem_cons_self)
    have e : Str.join Str.empty (x :: y :: r) = x ++ Str.empty ++ Str.join Str.empty (y :: r) := rfl
    have h0 : Low Str.empty := fun c hc => nomatch hc
    rw [e]
    refine ⟨?_, low_app (low_app hx.2 h0) ih.2⟩
    rw [len_appE, len_appE, ih.1, hx.1, List.length_cons]
    show 1 + 0 + (y :: r).length = (y :: r).length + 1
    omega
theorem RowAt.ne {H : Hp} {a b : Addr} (h : RowAt H a) (hb : H b = none) : a ≠ b := by
  obtain ⟨ns, e, _⟩ := h
  exact ne_of_none e hb
theorem RowAt.some {H : Hp} {a : Addr} (h : RowAt H a) : ∃ o, H a = some o := by
  obtain ⟨ns, e, _⟩ := h
  exact ⟨_, e⟩
theorem RowAt.up {H : Hp} {a p : Addr} {o : HO} (h : RowAt H a) (hp : a ≠ p) : RowAt (upd H p o) a := by
  obtain ⟨ns, e, r⟩ := h
  exact ⟨ns, by rw [upd_ne hp]; exact e, r⟩
def spWord : Sp := fun vs H Q _ => ∃ (a : Addr) (m : Int), vs = [.ref a, .int m] ∧ RowAt H a ∧ 0 ≤ m ∧ m ≤ 100 ∧ ∀ (z : Str) (H' : Hp), z.length = m.toNat → Low z → RowAt H' a → Kp [a] H H' → Q (.str z) H'
def WordInv (H : Hp) (a d : Addr) (i : Nat) (H' : Hp) : Prop := ∃ zs : List Str, H' d = some (.lst (zs.map V.str)) ∧ zs.length = i ∧ (∀ z ∈ zs, z.length = 1 ∧ Low z) ∧ RowAt H' a ∧ Kp [a] H H'
theorem ok_law_word {f : Addr} {fd : FuncData} (D : Df K mg "_law_word" s_law_word ["_law_row_here", "_law_size_here"] f fd) (T : Bt0 mg) {fr : Addr} {fdr : FuncData} (D_law_draw : Df K mg "_law_draw" s_law_draw ["_law_row_here", "_law_many"] fr fdr) (G_law_draw : FnOk P w K mg base CX0 1 fr fdr ["_law_row_here", "_law_many"] spDraw) :
    FnOk P w K mg base CX0 2 f fd ["_law_row_here", "_law_size_here"] spWord := by
  refine D.F.ok sc_law_word (fun vs H Q E h => ?_) (fun cdv A outer s H vs Q E hr h => ?_)
  · obtain ⟨a, m, rfl, _⟩ := h
    rfl
  · obtain ⟨a, m, rfl, R, m0, m1, q⟩ := h
    have hu := hu_of hr
    refine ⟨_, (pss_cons (ps_set (i := 2) sc_law_word.nd rfl (Or.inr rfl) pe_str)
      (pss_one (ps_ret (pe_join pe_str (pe_lc (own := [("_law_k", 3)]) (g := (gName 3)) (tt := tYes) rfl sc_law_word.nd (pi_range1 rfl T.b_range (pa_cons (pv 1) pa_nil)) (blkOk_by (N := ["_law_row_here", "_law_size_here", "_law_letters", "_law_k"]) (sc := defScope s_law_word) (by decide +kernel)) (fun _ _ _ _ _ => (pg_name (i := 3) sc_law_word.nd rfl (Or.inl rfl))) (fun _ _ _ _ _ => pts_nil) (fun _ _ _ _ _ => (pe_ix ix_str (pv 2) (pe_call G_law_draw (hr.mono (by decide)) rfl D_law_draw.g D_law_draw.F.kp D_law_draw.b .nil pass0 (pa_cons (pv 0) (pa_cons pe_int pa_nil))) (fun _ _ => rfl)))))))), ?_⟩
    try simp (maxSteps := 1000000) only [tSeq, tIfS, tTest, tOp, tUn, tCB, tCons, tNil, tVar, tC, rI0, rI, rU, rEq, rNe, tRet, tRetN, tAsg, gName, gSub, tBM, tBM0, tNext, tB, tNot, tAnd, tOr, tIf, tCall, tDrop, tBreak, tCont, L2.start, tDGet, sDPut, tTup, tLst, tDNewK, tRevL, rCat, rAppend, rPop, rSetL, tAndV, tOrV, tNotV, tSl, tPart, tNoPart, tM1, gTup, gCons, gNil, cxK, cxnK, List.map_cons, List.map_nil, List.length_cons, List.length_nil, List.replicate, List.cons_append, List.nil_append, List.append_nil, List.set_cons_zero, List.set_cons_succ, List.getElem?_cons_zero, List.getElem?_cons_succ, Option.some.injEq, V.ref.injEq, V.int.injEq, V.str.injEq, V.bl.injEq, V.ty.injEq, exists_eq_left', exists_eq_left, exists_and_left, List.cons.injEq, and_true, true_and, sc_ii, sc_ss, sc_bb, sc_ni, sc_in, sc_is, sc_si, sc_nn, decide_true, decide_false, reduceCtorEq, Bool.false_eq_true, if_true, if_false, ite_true, ite_false, exists_const, eq_self, false_and, and_false, or_false, false_or, exists_false, Evl.rLenS, rSum, wipe, tYes, exists_eq, exists_eq', rIxL, rIxT, rIxS, exists_and_right, gt_iff_lt, not_true_eq_false, not_false_eq_true, Bool.not_true, Bool.not_false, decide_eq_true_eq, Nat.reduceSub, Nat.reduceAdd, List.append_assoc, tChain, tDIn, tDNotIn, sDDel, tAug, ipI]
    refine ⟨.int m, rfl, m, rfl, by omega, by omega, fun d nd => lc_range (lo := 0) (n := m.toNat) (WordInv H a d) ⟨[], upd_same, rfl, (fun z hz => nomatch hz), R.up (R.ne nd), Kp.new nd⟩ ?_ ?_⟩
    · rintro i H1 hi ⟨zs, hd, hz, hl, R1, kp⟩
      try simp (maxSteps := 1000000) only [tSeq, tIfS, tTest, tOp, tUn, tCB, tCons, tNil, tVar, tC, rI0, rI, rU, rEq, rNe, tRet, tRetN, tAsg, gName, gSub, tBM, tBM0, tNext, tB, tNot, tAnd, tOr, tIf, tCall, tDrop, tBreak, tCont, L2.start, tDGet, sDPut, tTup, tLst, tDNewK, tRevL, rCat, rAppend, rPop, rSetL, tAndV, tOrV, tNotV, tSl, tPart, tNoPart, tM1, gTup, gCons, gNil, cxK, cxnK, List.map_cons, List.map_nil, List.length_cons, List.length_nil, List.replicate, List.cons_append, List.nil_append, List.append_nil, List.set_cons_zero, List.set_cons_succ, List.getElem?_cons_zero, List.getElem?_cons_succ, Option.some.injEq, V.ref.injEq, V.int.injEq, V.str.injEq, V.bl.injEq, V.ty.injEq, exists_eq_left', exists_eq_left, exists_and_left, List.cons.injEq, and_true, true_and, sc_ii, sc_ss, sc_bb, sc_ni, sc_in, sc_is, sc_si, sc_nn, decide_true, decide_false, reduceCtorEq, Bool.false_eq_true, if_true, if_false, ite_true, ite_false, exists_const, eq_self, false_and, and_false, or_false, false_or, exists_false, Evl.rLenS, rSum, wipe, tYes, exists_eq, exists_eq', rIxL, rIxT, rIxS, exists_and_right, gt_iff_lt, not_true_eq_false, not_false_eq_true, Bool.not_true, Bool.not_false, decide_eq_true_eq, Nat.reduceSub, Nat.reduceAdd, List.append_assoc, tChain, tDIn, tDNotIn, sDDel, tAug, ipI]
      refine ⟨a, 26, rfl, R1, by decide, fun r H2 r0 r1 R2 k2 => ?_⟩
      have hc := lets_at r.toNat (by omega)
      have hdn : d ∉ [a] := not1 (R.ne nd).symm
      have kd : Kp [a] H H2 := kp.trans k2
      try simp (maxSteps := 1000000) only [tSeq, tIfS, tTest, tOp, tUn, tCB, tCons, tNil, tVar, tC, rI0, rI, rU, rEq, rNe, tRet, tRetN, tAsg, gName, gSub, tBM, tBM0, tNext, tB, tNot, tAnd, tOr, tIf, tCall, tDrop, tBreak, tCont, L2.start, tDGet, sDPut, tTup, tLst, tDNewK, tRevL, rCat, rAppend, rPop, rSetL, tAndV, tOrV, tNotV, tSl, tPart, tNoPart, tM1, gTup, gCons, gNil, cxK, cxnK, List.map_cons, List.map_nil, List.length_cons, List.length_nil, List.replicate, List.cons_append, List.nil_append, List.append_nil, List.set_cons_zero, List.set_cons_succ, List.getElem?_cons_zero, List.getElem?_cons_succ, Option.some.injEq, V.ref.injEq, V.int.injEq, V.str.injEq, V.bl.injEq, V.ty.injEq, exists_eq_left', exists_eq_left, exists_and_left, List.cons.injEq, and_true, true_and, sc_ii, sc_ss, sc_bb, sc_ni, sc_in, sc_is, sc_si, sc_nn, decide_true, decide_false, reduceCtorEq, Bool.false_eq_true, if_true, if_false, ite_true, ite_false, exists_const, eq_self, false_and, and_false, or_false, false_or, exists_false, Evl.rLenS, rSum, wipe, tYes, exists_eq, exists_eq', rIxL, rIxT, rIxS, exists_and_right, gt_iff_lt, not_true_eq_false, not_false_eq_true, Bool.not_true, Bool.not_false, decide_eq_true_eq, Nat.reduceSub, Nat.reduceAdd, List.append_assoc, tChain, tDIn, tDNotIn, sDDel, tAug, ipI]
      refine ⟨by decide +kernel, _, atI_of r0 hc, _, k2 _ _ hdn hd, ?_, zs ++ [⟨#[97 + r.toNat]⟩], ?_, by simp [hz], ?_, R2.up (R.ne nd), ?_⟩
      · rw [List.length_map, hz]; exact smallL (by omega)
      · rw [upd_same, List.map_append]; rfl
      · intro z hzm
        rcases List.mem_append.mp hzm with h | h
        · exact hl z h
        · rw [List.mem_singleton.mp h]; exact ⟨rfl, low1 (by omega)⟩
      · exact kd.wr nd
    · rintro H1 ⟨zs, hd, hz, hl, R1, kp⟩
      have jl := join_low zs hl
      try simp (maxSteps := 1000000) only [tSeq, tIfS, tTest, tOp, tUn, tCB, tCons, tNil, tVar, tC, rI0, rI, rU, rEq, rNe, tRet, tRetN, tAsg, gName, gSub, tBM, tBM0, tNext, tB, tNot, tAnd, tOr, tIf, tCall, tDrop, tBreak, tCont, L2.start, tDGet, sDPut, tTup, tLst, tDNewK, tRevL, rCat, rAppend, rPop, rSetL, tAndV, tOrV, tNotV, tSl, tPart, tNoPart, tM1, gTup, gCons, gNil, cxK, cxnK, List.map_cons, List.map_nil, List.length_cons, List.length_nil, List.replicate, List.cons_append, List.nil_append, List.append_nil, List.set_cons_zero, List.set_cons_succ, List.getElem?_cons_zero, List.getElem?_cons_succ, Option.some.injEq, V.ref.injEq, V.int.injEq, V.str.injEq, V.bl.injEq, V.ty.injEq, exists_eq_left', exists_eq_left, exists_and_left, List.cons.injEq, and_true, true_and, sc_ii, sc_ss, sc_bb, sc_ni, sc_in, sc_is, sc_si, sc_nn, decide_true, decide_false, reduceCtorEq, Bool.false_eq_true, if_true, if_false, ite_true, ite_false, exists_const, eq_self, false_and, and_false, or_false, false_or, exists_false, Evl.rLenS, rSum, wipe, tYes, exists_eq, exists_eq', rIxL, rIxT, rIxS, exists_and_right, gt_iff_lt, not_true_eq_false, not_false_eq_true, Bool.not_true, Bool.not_false, decide_eq_true_eq, Nat.reduceSub, Nat.reduceAdd, List.append_assoc, tChain, tDIn, tDNotIn, sDDel, tAug, ipI]
      refine ⟨zs, .inl (sq_l hd), ?_, ?_⟩
      · have e1 : (zs.map fun z => z.length).sum = zs.length := by
          clear hz jl hd
          induction zs with
          | nil => rfl
          | cons z r ih =>
            rw [List.map_cons, List.sum_cons, ih (fun z hz => hl z (List.mem_cons_of_mem _ hz)), (hl z (List.mem_cons_self)).1, List.length_cons]; omega
        have e2 : (Str.ofString "").length = 0 := rfl
        rw [e1, e2, hz]; omega
      · rw [TL.join_eq]
        exact q _ _ (jl.1.trans hz) jl.2 R1 kp

/-! ### names -/
/-- the word z has the letter of the number n at the place pl -/
def At (pl n : Nat) (z : Str) : Prop := z.cps.toList[pl]? = some (97 + n % 26)
def Nm (z : Str) : Prop := Low z ∧ 1 ≤ z.length ∧ z.length ≤ 8
theorem nodup_at {pl st : Nat} {zs : List Str} (hn : zs.length ≤ 26) (h : ∀ j z, zs[j]? = some z → At pl (st + j) z) : zs.Nodup := by
  unfold List.Nodup
  rw [List.pairwise_iff_getElem]
  intro i j hi hj hij e
  have a := h i _ (List.getElem?_eq_getElem hi)
  have b := h j _ (List.getElem?_eq_getElem hj)
  rw [e] at a
  have c := Option.some.inj (a.symm.trans b)
  omega
theorem at_glued {x y : Str} {pl n : Nat} (hx : x.length = pl) : At pl n (x ++ ⟨#[97 + n % 26]⟩ ++ y) := by
  have e : (x ++ ⟨#[97 + n % 26]⟩ ++ y : Str).cps.toList = x.cps.toList ++ ([97 + n % 26] ++ y.cps.toList) := by
    show (x.cps ++ #[97 + n % 26] ++ y.cps).toList = _
    simp
  unfold At
  have hl : x.cps.toList.length = pl := hx
  rw [e, ← hl, List.getElem?_append_right (Nat.le_refl _), Nat.sub_self]
  rfl
def spNames : Sp := fun vs H Q _ => ∃ (a : Addr) (m : Int), vs = [.ref a, .int m] ∧ RowAt H a ∧ 0 ≤ m ∧ m ≤ 26 ∧ ∀ (p : Addr) (zs : List Str) (H' : Hp), H p = none → H' p = some (.lst (zs.map V.str)) → zs.length = m.toNat → (∀ z ∈ zs, Nm z) → zs.Nodup → RowAt H' a → Kp [a] H H' → Q (.ref p) H'
def NamesInv (H : Hp) (a o : Addr) (m : Int) (pl st : Int) (i : Nat) (σ : L2.St) (H' : Hp) : Prop := ∃ (al : Bool) (hd tl : Str) (k : Option V) (zs : List Str),
  σ = [some (.ref a), some (.int m), some (.str lets), some (.int pl), some (.bl al), some (.int st), some (.str hd), some (.str tl), some (.ref o), k] ∧ hd.length = pl.toNat ∧ Low hd ∧ tl.length ≤ 4 ∧ Low tl ∧
  H' o = some (.lst (zs.map V.str)) ∧ zs.length = i ∧ (∀ j z, zs[j]? = some z → Nm z ∧ At pl.toNat (st.toNat + j) z) ∧ RowAt H' a ∧ Kp [a] H H'
theorem ok_law_names {f : Addr} {fd : FuncData} (D : Df K mg "_law_names" s_law_names ["_law_row_here", "_law_many"] f fd) (T : Bt0 mg) {fr : Addr} {fdr : FuncData} (D_law_draw : Df K mg "_law_draw" s_law_draw ["_law_row_here", "_law_many"] fr fdr) (G_law_draw : FnOk P w K mg base CX0 1 fr fdr ["_law_row_here", "_law_many"] spDraw)
    {fw : Addr} {fdw : FuncData} (D_law_word : Df K mg "_law_word" s_law_word ["_law_row_here", "_law_size_here"] fw fdw) (G_law_word : FnOk P w K mg base CX0 2 fw fdw ["_law_row_here", "_law_size_here"] spWord) : FnOk P w K mg base CX0 3 f fd ["_law_row_here", "_law_many"] spNames := by
  refine D.F.ok sc_law_names (fun vs H Q E h => ?_) (fun cdv A outer s H vs Q E hr h => ?_)
  · obtain ⟨a, m, rfl, _⟩ := h
    rfl
  · obtain ⟨a, m, rfl, R, m0, m1, q⟩ := h
    have hu := hu_of hr
    refine ⟨_, (pss_cons (ps_set (i := 2) sc_law_names.nd rfl (Or.inl rfl) pe_str)
      (pss_cons (ps_set (i := 3) sc_law_names.nd rfl (Or.inl rfl) (pe_call G_law_draw (hr.mono (by decide)) rfl D_law_draw.g D_law_draw.F.kp D_law_draw.b .nil pass0 (pa_cons (pv 0) (pa_cons pe_int pa_nil))))
      (pss_cons (ps_set (i := 4) sc_law_names.nd rfl (Or.inl rfl) (pe_cmpR op_eq (pe_call G_law_draw (hr.mono (by decide)) rfl D_law_draw.g D_law_draw.F.kp D_law_draw.b .nil pass0 (pa_cons (pv 0) (pa_cons pe_int pa_nil))) pe_int (nomark _)))
      (pss_cons (ps_set (i := 5) sc_law_names.nd rfl (Or.inl rfl) (pe_call G_law_draw (hr.mono (by decide)) rfl D_law_draw.g D_law_draw.F.kp D_law_draw.b .nil pass0 (pa_cons (pv 0) (pa_cons pe_int pa_nil))))
      (pss_cons (ps_set (i := 6) sc_law_names.nd rfl (Or.inl rfl) (pe_call G_law_word (hr.mono (by decide)) rfl D_law_word.g D_law_word.F.kp D_law_word.b .nil pass0 (pa_cons (pv 0) (pa_cons (pv 3) pa_nil))))
      (pss_cons (ps_set (i := 7) sc_law_names.nd rfl (Or.inl rfl) (pe_call G_law_word (hr.mono (by decide)) rfl D_law_word.g D_law_word.F.kp D_law_word.b .nil pass0 (pa_cons (pv 0) (pa_cons (pe_call G_law_draw (hr.mono (by decide)) rfl D_law_draw.g D_law_draw.F.kp D_law_draw.b .nil pass0 (pa_cons (pv 0) (pa_cons pe_int pa_nil))) pa_nil))))
      (pss_cons (ps_set (i := 8) sc_law_names.nd rfl (Or.inl rfl) (pe_lst pa_nil))
      (pss_cons (ps_for PassesOwn.never rfl (pi_range1 rfl T.b_range (pa_cons (pv 1) pa_nil)) (pg_name (i := 9) sc_law_names.nd rfl (Or.inl rfl)) (pss_cons (ps_expr (pe_bm PySem.F.plainAttrs_list PySem.F.slot_list_append PySem.F.type_list_append mt_append (pv 8) (pa_cons (pe_op op_add_str (pe_op op_add_str (pv 6) (pe_ix ix_str (pv 2) (pe_op op_mod (pe_callTy (T := "int") call_int1 (by rfl) T.b_int (by decide +kernel) (pa_cons (pe_op op_add (pv 5) (pv 9)) pa_nil)) pe_int) (fun _ _ => rfl))) (pv 7)) pa_nil)))
      (pss_one (ps_if (pt_not (pt_val (pv 4))) (pss_cons (ps_set (i := 6) sc_law_names.nd rfl (Or.inl rfl) (pe_call G_law_word (hr.mono (by decide)) rfl D_law_word.g D_law_word.F.kp D_law_word.b .nil pass0 (pa_cons (pv 0) (pa_cons (pv 3) pa_nil))))
      (pss_one (ps_set (i := 7) sc_law_names.nd rfl (Or.inl rfl) (pe_call G_law_word (hr.mono (by decide)) rfl D_law_word.g D_law_word.F.kp D_law_word.b .nil pass0 (pa_cons (pv 0) (pa_cons (pe_call G_law_draw (hr.mono (by decide)) rfl D_law_draw.g D_law_draw.F.kp D_law_draw.b .nil pass0 (pa_cons (pv 0) (pa_cons pe_int pa_nil))) pa_nil)))))) pss_nil))))
      (pss_one (ps_ret (pv 8))))))))))), ?_⟩
    try simp (maxSteps := 1000000) only [tSeq, tIfS, tTest, tOp, tUn, tCB, tCons, tNil, tVar, tC, rI0, rI, rU, rEq, rNe, tRet, tRetN, tAsg, gName, gSub, tBM, tBM0, tNext, tB, tNot, tAnd, tOr, tIf, tCall, tDrop, tBreak, tCont, L2.start, tDGet, sDPut, tTup, tLst, tDNewK, tRevL, rCat, rAppend, rPop, rSetL, tAndV, tOrV, tNotV, tSl, tPart, tNoPart, tM1, gTup, gCons, gNil, cxK, cxnK, List.map_cons, List.map_nil, List.length_cons, List.length_nil, List.replicate, List.cons_append, List.nil_append, List.append_nil, List.set_cons_zero, List.set_cons_succ, List.getElem?_cons_zero, List.getElem?_cons_succ, Option.some.injEq, V.ref.injEq, V.int.injEq, V.str.injEq, V.bl.injEq, V.ty.injEq, exists_eq_left', exists_eq_left, exists_and_left, List.cons.injEq, and_true, true_and, sc_ii, sc_ss, sc_bb, sc_ni, sc_in, sc_is, sc_si, sc_nn, decide_true, decide_false, reduceCtorEq, Bool.false_eq_true, if_true, if_false, ite_true, ite_false, exists_const, eq_self, false_and, and_false, or_false, false_or, exists_false, Evl.rLenS, rSum, wipe, tYes, exists_eq, exists_eq', rIxL, rIxT, rIxS, exists_and_right, gt_iff_lt, not_true_eq_false, not_false_eq_true, Bool.not_true, Bool.not_false, decide_eq_true_eq, Nat.reduceSub, Nat.reduceAdd, List.append_assoc, tChain, tDIn, tDNotIn, sDDel, tAug, ipI]
    refine ⟨a, 4, rfl, R, by decide, fun pl H1 p0 p1 R1 k1 => ?_⟩
    try simp (maxSteps := 1000000) only [tSeq, tIfS, tTest, tOp, tUn, tCB, tCons, tNil, tVar, tC, rI0, rI, rU, rEq, rNe, tRet, tRetN, tAsg, gName, gSub, tBM, tBM0, tNext, tB, tNot, tAnd, tOr, tIf, tCall, tDrop, tBreak, tCont, L2.start, tDGet, sDPut, tTup, tLst, tDNewK, tRevL, rCat, rAppend, rPop, rSetL, tAndV, tOrV, tNotV, tSl, tPart, tNoPart, tM1, gTup, gCons, gNil, cxK, cxnK, List.map_cons, List.map_nil, List.length_cons, List.length_nil, List.replicate, List.cons_append, List.nil_append, List.append_nil, List.set_cons_zero, List.set_cons_succ, List.getElem?_cons_zero, List.getElem?_cons_succ, Option.some.injEq, V.ref.injEq, V.int.injEq, V.str.injEq, V.bl.injEq, V.ty.injEq, exists_eq_left', exists_eq_left, exists_and_left, List.cons.injEq, and_true, true_and, sc_ii, sc_ss, sc_bb, sc_ni, sc_in, sc_is, sc_si, sc_nn, decide_true, decide_false, reduceCtorEq, Bool.false_eq_true, if_true, if_false, ite_true, ite_false, exists_const, eq_self, false_and, and_false, or_false, false_or, exists_false, Evl.rLenS, rSum, wipe, tYes, exists_eq, exists_eq', rIxL, rIxT, rIxS, exists_and_right, gt_iff_lt, not_true_eq_false, not_false_eq_true, Bool.not_true, Bool.not_false, decide_eq_true_eq, Nat.reduceSub, Nat.reduceAdd, List.append_assoc, tChain, tDIn, tDNotIn, sDDel, tAug, ipI]
    refine ⟨a, 2, rfl, R1, by decide, fun al H2 a0 a1 R2 k2 => ?_⟩
    try simp (maxSteps := 1000000) only [tSeq, tIfS, tTest, tOp, tUn, tCB, tCons, tNil, tVar, tC, rI0, rI, rU, rEq, rNe, tRet, tRetN, tAsg, gName, gSub, tBM, tBM0, tNext, tB, tNot, tAnd, tOr, tIf, tCall, tDrop, tBreak, tCont, L2.start, tDGet, sDPut, tTup, tLst, tDNewK, tRevL, rCat, rAppend, rPop, rSetL, tAndV, tOrV, tNotV, tSl, tPart, tNoPart, tM1, gTup, gCons, gNil, cxK, cxnK, List.map_cons, List.map_nil, List.length_cons, List.length_nil, List.replicate, List.cons_append, List.nil_append, List.append_nil, List.set_cons_zero, List.set_cons_succ, List.getElem?_cons_zero, List.getElem?_cons_succ, Option.some.injEq, V.ref.injEq, V.int.injEq, V.str.injEq, V.bl.injEq, V.ty.injEq, exists_eq_left', exists_eq_left, exists_and_left, List.cons.injEq, and_true, true_and, sc_ii, sc_ss, sc_bb, sc_ni, sc_in, sc_is, sc_si, sc_nn, decide_true, decide_false, reduceCtorEq, Bool.false_eq_true, if_true, if_false, ite_true, ite_false, exists_const, eq_self, false_and, and_false, or_false, false_or, exists_false, Evl.rLenS, rSum, wipe, tYes, exists_eq, exists_eq', rIxL, rIxT, rIxS, exists_and_right, gt_iff_lt, not_true_eq_false, not_false_eq_true, Bool.not_true, Bool.not_false, decide_eq_true_eq, Nat.reduceSub, Nat.reduceAdd, List.append_assoc, tChain, tDIn, tDNotIn, sDDel, tAug, ipI]
    refine ⟨a, 26, rfl, R2, by decide, fun st H3 s0 s1 R3 k3 => ?_⟩
    try simp (maxSteps := 1000000) only [tSeq, tIfS, tTest, tOp, tUn, tCB, tCons, tNil, tVar, tC, rI0, rI, rU, rEq, rNe, tRet, tRetN, tAsg, gName, gSub, tBM, tBM0, tNext, tB, tNot, tAnd, tOr, tIf, tCall, tDrop, tBreak, tCont, L2.start, tDGet, sDPut, tTup, tLst, tDNewK, tRevL, rCat, rAppend, rPop, rSetL, tAndV, tOrV, tNotV, tSl, tPart, tNoPart, tM1, gTup, gCons, gNil, cxK, cxnK, List.map_cons, List.map_nil, List.length_cons, List.length_nil, List.replicate, List.cons_append, List.nil_append, List.append_nil, List.set_cons_zero, List.set_cons_succ, List.getElem?_cons_zero, List.getElem?_cons_succ, Option.some.injEq, V.ref.injEq, V.int.injEq, V.str.injEq, V.bl.injEq, V.ty.injEq, exists_eq_left', exists_eq_left, exists_and_left, List.cons.injEq, and_true, true_and, sc_ii, sc_ss, sc_bb, sc_ni, sc_in, sc_is, sc_si, sc_nn, decide_true, decide_false, reduceCtorEq, Bool.false_eq_true, if_true, if_false, ite_true, ite_false, exists_const, eq_self, false_and, and_false, or_false, false_or, exists_false, Evl.rLenS, rSum, wipe, tYes, exists_eq, exists_eq', rIxL, rIxT, rIxS, exists_and_right, gt_iff_lt, not_true_eq_false, not_false_eq_true, Bool.not_true, Bool.not_false, decide_eq_true_eq, Nat.reduceSub, Nat.reduceAdd, List.append_assoc, tChain, tDIn, tDNotIn, sDDel, tAug, ipI]
    refine ⟨a, pl, rfl, R3, p0, by omega, fun hd H4 h1 h2 R4 k4 => ?_⟩
    try simp (maxSteps := 1000000) only [tSeq, tIfS, tTest, tOp, tUn, tCB, tCons, tNil, tVar, tC, rI0, rI, rU, rEq, rNe, tRet, tRetN, tAsg, gName, gSub, tBM, tBM0, tNext, tB, tNot, tAnd, tOr, tIf, tCall, tDrop, tBreak, tCont, L2.start, tDGet, sDPut, tTup, tLst, tDNewK, tRevL, rCat, rAppend, rPop, rSetL, tAndV, tOrV, tNotV, tSl, tPart, tNoPart, tM1, gTup, gCons, gNil, cxK, cxnK, List.map_cons, List.map_nil, List.length_cons, List.length_nil, List.replicate, List.cons_append, List.nil_append, List.append_nil, List.set_cons_zero, List.set_cons_succ, List.getElem?_cons_zero, List.getElem?_cons_succ, Option.some.injEq, V.ref.injEq, V.int.injEq, V.str.injEq, V.bl.injEq, V.ty.injEq, exists_eq_left', exists_eq_left, exists_and_left, List.cons.injEq, and_true, true_and, sc_ii, sc_ss, sc_bb, sc_ni, sc_in, sc_is, sc_si, sc_nn, decide_true, decide_false, reduceCtorEq, Bool.false_eq_true, if_true, if_false, ite_true, ite_false, exists_const, eq_self, false_and, and_false, or_false, false_or, exists_false, Evl.rLenS, rSum, wipe, tYes, exists_eq, exists_eq', rIxL, rIxT, rIxS, exists_and_right, gt_iff_lt, not_true_eq_false, not_false_eq_true, Bool.not_true, Bool.not_false, decide_eq_true_eq, Nat.reduceSub, Nat.reduceAdd, List.append_assoc, tChain, tDIn, tDNotIn, sDDel, tAug, ipI]
    refine ⟨a, 5, rfl, R4, by decide, fun n5 H5 z0 z1 R5 k5 => ?_⟩
    try simp (maxSteps := 1000000) only [tSeq, tIfS, tTest, tOp, tUn, tCB, tCons, tNil, tVar, tC, rI0, rI, rU, rEq, rNe, tRet, tRetN, tAsg, gName, gSub, tBM, tBM0, tNext, tB, tNot, tAnd, tOr, tIf, tCall, tDrop, tBreak, tCont, L2.start, tDGet, sDPut, tTup, tLst, tDNewK, tRevL, rCat, rAppend, rPop, rSetL, tAndV, tOrV, tNotV, tSl, tPart, tNoPart, tM1, gTup, gCons, gNil, cxK, cxnK, List.map_cons, List.map_nil, List.length_cons, List.length_nil, List.replicate, List.cons_append, List.nil_append, List.append_nil, List.set_cons_zero, List.set_cons_succ, List.getElem?_cons_zero, List.getElem?_cons_succ, Option.some.injEq, V.ref.injEq, V.int.injEq, V.str.injEq, V.bl.injEq, V.ty.injEq, exists_eq_left', exists_eq_left, exists_and_left, List.cons.injEq, and_true, true_and, sc_ii, sc_ss, sc_bb, sc_ni, sc_in, sc_is, sc_si, sc_nn, decide_true, decide_false, reduceCtorEq, Bool.false_eq_true, if_true, if_false, ite_true, ite_false, exists_const, eq_self, false_and, and_false, or_false, false_or, exists_false, Evl.rLenS, rSum, wipe, tYes, exists_eq, exists_eq', rIxL, rIxT, rIxS, exists_and_right, gt_iff_lt, not_true_eq_false, not_false_eq_true, Bool.not_true, Bool.not_false, decide_eq_true_eq, Nat.reduceSub, Nat.reduceAdd, List.append_assoc, tChain, tDIn, tDNotIn, sDDel, tAug, ipI]
    refine ⟨a, n5, rfl, R5, z0, by omega, fun tl H6 t1 t2 R6 k6 => ?_⟩
    try simp (maxSteps := 1000000) only [tSeq, tIfS, tTest, tOp, tUn, tCB, tCons, tNil, tVar, tC, rI0, rI, rU, rEq, rNe, tRet, tRetN, tAsg, gName, gSub, tBM, tBM0, tNext, tB, tNot, tAnd, tOr, tIf, tCall, tDrop, tBreak, tCont, L2.start, tDGet, sDPut, tTup, tLst, tDNewK, tRevL, rCat, rAppend, rPop, rSetL, tAndV, tOrV, tNotV, tSl, tPart, tNoPart, tM1, gTup, gCons, gNil, cxK, cxnK, List.map_cons, List.map_nil, List.length_cons, List.length_nil, List.replicate, List.cons_append, List.nil_append, List.append_nil, List.set_cons_zero, List.set_cons_succ, List.getElem?_cons_zero, List.getElem?_cons_succ, Option.some.injEq, V.ref.injEq, V.int.injEq, V.str.injEq, V.bl.injEq, V.ty.injEq, exists_eq_left', exists_eq_left, exists_and_left, List.cons.injEq, and_true, true_and, sc_ii, sc_ss, sc_bb, sc_ni, sc_in, sc_is, sc_si, sc_nn, decide_true, decide_false, reduceCtorEq, Bool.false_eq_true, if_true, if_false, ite_true, ite_false, exists_const, eq_self, false_and, and_false, or_false, false_or, exists_false, Evl.rLenS, rSum, wipe, tYes, exists_eq, exists_eq', rIxL, rIxT, rIxS, exists_and_right, gt_iff_lt, not_true_eq_false, not_false_eq_true, Bool.not_true, Bool.not_false, decide_eq_true_eq, Nat.reduceSub, Nat.reduceAdd, List.append_assoc, tChain, tDIn, tDNotIn, sDDel, tAug, ipI]
    refine ⟨small (by decide), fun o no => ?_⟩
    have k7 : Kp [a] H (upd H6 o (.lst [])) := (((((k1.trans k2).trans k3).trans k4).trans k5).trans k6).trans (Kp.new no)
    have hao : a ≠ o := R6.ne no
    have hno : H o = none := (((((k1.trans k2).trans k3).trans k4).trans k5).trans k6).free no fun b hb => by rw [List.mem_singleton.mp hb]; exact R6.some
    refine ⟨.int m, rfl, m, rfl, by omega, by omega, for_range (lo := 0) (n := m.toNat) (NamesInv H a o m pl st) ⟨_, hd, tl, none, [], rfl, h1, h2, by omega, t2, upd_same, rfl, (fun j z hz => by simp at hz), R6.up hao, k7⟩ ?_ ?_⟩
    · rintro i σ H7 hi ⟨al', hd', tl', k, zs, rfl, e1, e2, e3, e4, e5, e6, e7, R7, k7⟩
      try simp (maxSteps := 1000000) only [tSeq, tIfS, tTest, tOp, tUn, tCB, tCons, tNil, tVar, tC, rI0, rI, rU, rEq, rNe, tRet, tRetN, tAsg, gName, gSub, tBM, tBM0, tNext, tB, tNot, tAnd, tOr, tIf, tCall, tDrop, tBreak, tCont, L2.start, tDGet, sDPut, tTup, tLst, tDNewK, tRevL, rCat, rAppend, rPop, rSetL, tAndV, tOrV, tNotV, tSl, tPart, tNoPart, tM1, gTup, gCons, gNil, cxK, cxnK, List.map_cons, List.map_nil, List.length_cons, List.length_nil, List.replicate, List.cons_append, List.nil_append, List.append_nil, List.set_cons_zero, List.set_cons_succ, List.getElem?_cons_zero, List.getElem?_cons_succ, Option.some.injEq, V.ref.injEq, V.int.injEq, V.str.injEq, V.bl.injEq, V.ty.injEq, exists_eq_left', exists_eq_left, exists_and_left, List.cons.injEq, and_true, true_and, sc_ii, sc_ss, sc_bb, sc_ni, sc_in, sc_is, sc_si, sc_nn, decide_true, decide_false, reduceCtorEq, Bool.false_eq_true, if_true, if_false, ite_true, ite_false, exists_const, eq_self, false_and, and_false, or_false, false_or, exists_false, Evl.rLenS, rSum, wipe, tYes, exists_eq, exists_eq', rIxL, rIxT, rIxS, exists_and_right, gt_iff_lt, not_true_eq_false, not_false_eq_true, Bool.not_true, Bool.not_false, decide_eq_true_eq, Nat.reduceSub, Nat.reduceAdd, List.append_assoc, tChain, tDIn, tDNotIn, sDDel, tAug, ipI]
      have hx : (st + (0 + (i : Int))) % 26 = (((st.toNat + i) % 26 : Nat) : Int) := by omega
      have hc := lets_at ((st.toNat + i) % 26) (Nat.mod_lt _ (by decide))
      have eL : (lets.cps.toList) = (Str.ofString "abcdefghijklmnopqrstuvwxyz").cps.toList := rfl
      have key : Nm (hd' ++ ⟨#[97 + (st.toNat + i) % 26]⟩ ++ tl') := by
        refine ⟨low_app (low_app e2 (low1 (by omega))) e4, ?_, ?_⟩
        · rw [len_appE, len_appE]; show 1 ≤ hd'.length + 1 + tl'.length; omega
        · rw [len_appE, len_appE]; show hd'.length + 1 + tl'.length ≤ 8; omega
      have hin : o ∉ [a] := not1 hao.symm
      refine ⟨.inl ⟨rfl, _, sq_l e5⟩, by decide +kernel, by decide, _, atI_of (v := 97 + (st.toNat + i) % 26) (by omega) (by rw [hx]; exact hc), ?_, ?_, _, e5, ?_, ?_⟩
      · show hd'.length + 1 ≤ sizeLine; exact small (by omega)
      · rw [len_appE]; show hd'.length + 1 + tl'.length ≤ sizeLine; exact small (by omega)
      · rw [List.length_map]; exact smallL (by omega)
      have k8 : Kp [a] H (upd H7 o (.lst ((zs ++ [hd' ++ ⟨#[97 + (st.toNat + i) % 26]⟩ ++ tl']).map V.str))) := k7.wr hno
      have e8 : ∀ j z, (zs ++ [hd' ++ ⟨#[97 + (st.toNat + i) % 26]⟩ ++ tl'])[j]? = some z → Nm z ∧ At pl.toNat (st.toNat + j) z := by
        intro j z hz
        rcases Nat.lt_trichotomy j zs.length with hj | hj | hj
        · rw [List.getElem?_append_left hj] at hz
          exact e7 j z hz
        · rw [List.getElem?_append_right (by omega), hj, Nat.sub_self] at hz
          have ez := Option.some.inj hz
          rw [← ez, hj, e6]
          exact ⟨key, at_glued e1⟩
        · rw [List.getElem?_eq_none (by rw [List.length_append, List.length_singleton]; omega)] at hz
          cases hz
      have e9 : (zs.map V.str ++ [V.str (hd' ++ ⟨#[97 + (st.toNat + i) % 26]⟩ ++ tl')]) = (zs ++ [hd' ++ ⟨#[97 + (st.toNat + i) % 26]⟩ ++ tl']).map V.str := by rw [List.map_append]; rfl
      rw [e9]
      refine ite2 (fun hal => ?_) (fun hal => ?_)
      · refine ⟨a, pl, rfl, R7.up hao, p0, by omega, fun hd2 H8 q1 q2 R8 k9 => ?_⟩
        try simp (maxSteps := 1000000) only [tSeq, tIfS, tTest, tOp, tUn, tCB, tCons, tNil, tVar, tC, rI0, rI, rU, rEq, rNe, tRet, tRetN, tAsg, gName, gSub, tBM, tBM0, tNext, tB, tNot, tAnd, tOr, tIf, tCall, tDrop, tBreak, tCont, L2.start, tDGet, sDPut, tTup, tLst, tDNewK, tRevL, rCat, rAppend, rPop, rSetL, tAndV, tOrV, tNotV, tSl, tPart, tNoPart, tM1, gTup, gCons, gNil, cxK, cxnK, List.map_cons, List.map_nil, List.length_cons, List.length_nil, List.replicate, List.cons_append, List.nil_append, List.append_nil, List.set_cons_zero, List.set_cons_succ, List.getElem?_cons_zero, List.getElem?_cons_succ, Option.some.injEq, V.ref.injEq, V.int.injEq, V.str.injEq, V.bl.injEq, V.ty.injEq, exists_eq_left', exists_eq_left, exists_and_left, List.cons.injEq, and_true, true_and, sc_ii, sc_ss, sc_bb, sc_ni, sc_in, sc_is, sc_si, sc_nn, decide_true, decide_false, reduceCtorEq, Bool.false_eq_true, if_true, if_false, ite_true, ite_false, exists_const, eq_self, false_and, and_false, or_false, false_or, exists_false, Evl.rLenS, rSum, wipe, tYes, exists_eq, exists_eq', rIxL, rIxT, rIxS, exists_and_right, gt_iff_lt, not_true_eq_false, not_false_eq_true, Bool.not_true, Bool.not_false, decide_eq_true_eq, Nat.reduceSub, Nat.reduceAdd, List.append_assoc, tChain, tDIn, tDNotIn, sDDel, tAug, ipI]
        refine ⟨a, 5, rfl, R8, by decide, fun n5 H9 z0 z1 R9 k10 => ?_⟩
        try simp (maxSteps := 1000000) only [tSeq, tIfS, tTest, tOp, tUn, tCB, tCons, tNil, tVar, tC, rI0, rI, rU, rEq, rNe, tRet, tRetN, tAsg, gName, gSub, tBM, tBM0, tNext, tB, tNot, tAnd, tOr, tIf, tCall, tDrop, tBreak, tCont, L2.start, tDGet, sDPut, tTup, tLst, tDNewK, tRevL, rCat, rAppend, rPop, rSetL, tAndV, tOrV, tNotV, tSl, tPart, tNoPart, tM1, gTup, gCons, gNil, cxK, cxnK, List.map_cons, List.map_nil, List.length_cons, List.length_nil, List.replicate, List.cons_append, List.nil_append, List.append_nil, List.set_cons_zero, List.set_cons_succ, List.getElem?_cons_zero, List.getElem?_cons_succ, Option.some.injEq, V.ref.injEq, V.int.injEq, V.str.injEq, V.bl.injEq, V.ty.injEq, exists_eq_left', exists_eq_left, exists_and_left, List.cons.injEq, and_true, true_and, sc_ii, sc_ss, sc_bb, sc_ni, sc_in, sc_is, sc_si, sc_nn, decide_true, decide_false, reduceCtorEq, Bool.false_eq_true, if_true, if_false, ite_true, ite_false, exists_const, eq_self, false_and, and_false, or_false, false_or, exists_false, Evl.rLenS, rSum, wipe, tYes, exists_eq, exists_eq', rIxL, rIxT, rIxS, exists_and_right, gt_iff_lt, not_true_eq_false, not_false_eq_true, Bool.not_true, Bool.not_false, decide_eq_true_eq, Nat.reduceSub, Nat.reduceAdd, List.append_assoc, tChain, tDIn, tDNotIn, sDDel, tAug, ipI]
        refine ⟨a, n5, rfl, R9, z0, by omega, fun tl2 H10 t1 t2 R10 k11 => ?_⟩
        try simp (maxSteps := 1000000) only [tSeq, tIfS, tTest, tOp, tUn, tCB, tCons, tNil, tVar, tC, rI0, rI, rU, rEq, rNe, tRet, tRetN, tAsg, gName, gSub, tBM, tBM0, tNext, tB, tNot, tAnd, tOr, tIf, tCall, tDrop, tBreak, tCont, L2.start, tDGet, sDPut, tTup, tLst, tDNewK, tRevL, rCat, rAppend, rPop, rSetL, tAndV, tOrV, tNotV, tSl, tPart, tNoPart, tM1, gTup, gCons, gNil, cxK, cxnK, List.map_cons, List.map_nil, List.length_cons, List.length_nil, List.replicate, List.cons_append, List.nil_append, List.append_nil, List.set_cons_zero, List.set_cons_succ, List.getElem?_cons_zero, List.getElem?_cons_succ, Option.some.injEq, V.ref.injEq, V.int.injEq, V.str.injEq, V.bl.injEq, V.ty.injEq, exists_eq_left', exists_eq_left, exists_and_left, List.cons.injEq, and_true, true_and, sc_ii, sc_ss, sc_bb, sc_ni, sc_in, sc_is, sc_si, sc_nn, decide_true, decide_false, reduceCtorEq, Bool.false_eq_true, if_true, if_false, ite_true, ite_false, exists_const, eq_self, false_and, and_false, or_false, false_or, exists_false, Evl.rLenS, rSum, wipe, tYes, exists_eq, exists_eq', rIxL, rIxT, rIxS, exists_and_right, gt_iff_lt, not_true_eq_false, not_false_eq_true, Bool.not_true, Bool.not_false, decide_eq_true_eq, Nat.reduceSub, Nat.reduceAdd, List.append_assoc, tChain, tDIn, tDNotIn, sDDel, tAug, ipI]
        refine ⟨_, hd2, tl2, _, zs ++ [hd' ++ ⟨#[97 + (st.toNat + i) % 26]⟩ ++ tl'], rfl, q1, q2, by omega, t2, ?_, by rw [List.length_append, List.length_singleton, e6], e8, R10, ((k8.trans k9).trans k10).trans k11⟩
        exact k11 _ _ hin (k10 _ _ hin (k9 _ _ hin upd_same))
      · exact ⟨_, hd', tl', _, zs ++ [hd' ++ ⟨#[97 + (st.toNat + i) % 26]⟩ ++ tl'], rfl, e1, e2, e3, e4, upd_same, by rw [List.length_append, List.length_singleton, e6], e8, R7.up hao, k8⟩
    · rintro σ H7 ⟨al', hd', tl', k, zs, rfl, e1, e2, e3, e4, e5, e6, e7, R7, k7⟩
      try simp (maxSteps := 1000000) only [tSeq, tIfS, tTest, tOp, tUn, tCB, tCons, tNil, tVar, tC, rI0, rI, rU, rEq, rNe, tRet, tRetN, tAsg, gName, gSub, tBM, tBM0, tNext, tB, tNot, tAnd, tOr, tIf, tCall, tDrop, tBreak, tCont, L2.start, tDGet, sDPut, tTup, tLst, tDNewK, tRevL, rCat, rAppend, rPop, rSetL, tAndV, tOrV, tNotV, tSl, tPart, tNoPart, tM1, gTup, gCons, gNil, cxK, cxnK, List.map_cons, List.map_nil, List.length_cons, List.length_nil, List.replicate, List.cons_append, List.nil_append, List.append_nil, List.set_cons_zero, List.set_cons_succ, List.getElem?_cons_zero, List.getElem?_cons_succ, Option.some.injEq, V.ref.injEq, V.int.injEq, V.str.injEq, V.bl.injEq, V.ty.injEq, exists_eq_left', exists_eq_left, exists_and_left, List.cons.injEq, and_true, true_and, sc_ii, sc_ss, sc_bb, sc_ni, sc_in, sc_is, sc_si, sc_nn, decide_true, decide_false, reduceCtorEq, Bool.false_eq_true, if_true, if_false, ite_true, ite_false, exists_const, eq_self, false_and, and_false, or_false, false_or, exists_false, Evl.rLenS, rSum, wipe, tYes, exists_eq, exists_eq', rIxL, rIxT, rIxS, exists_and_right, gt_iff_lt, not_true_eq_false, not_false_eq_true, Bool.not_true, Bool.not_false, decide_eq_true_eq, Nat.reduceSub, Nat.reduceAdd, List.append_assoc, tChain, tDIn, tDNotIn, sDDel, tAug, ipI]
      refine q o zs H7 hno e5 e6 (fun z hz => ?_) (nodup_at (by omega) fun j z hz => (e7 j z hz).2) R7 k7
      obtain ⟨j, hj⟩ := List.getElem?_of_mem hz
      exact (e7 j z hj).1
end
end My

set_option Elab.async false
set_option linter.all false
set_option maxRecDepth 100000
set_option maxHeartbeats 4000000
namespace My
open PySem L2 NdefX
def stepAny : PyData → Bool
  | .tuple (.str x :: ds) => match forms.lookup x with
    | some rs => stepD rs ds
    | none => false
  | _ => false
/-- where a guard stands, its sign is a text -/
def SgR (rs : List Str) (ds : List PyData) : Prop := ∀ (i : Nat) (d : PyData), ds[i]? = some d → rs[i]? = some "guard" → sgOk d
/-- what may be asked: known words, or words that no step begins with -/
def okA : PyData → Prop
  | .tuple (.str x :: ds) => (∃ rs, (x, rs) ∈ forms ∧ SgR rs ds ∧ ds.length ≤ 1000) ∨ x ∈ oddWs
  | _ => True
theorem forms_nd : (forms.map (·.1)).Nodup := by decide +kernel
theorem lookup_mem {x : Str} {rs : List Str} : ∀ {l : List (Str × List Str)}, (l.map (·.1)).Nodup → (x, rs) ∈ l → l.lookup x = some rs
  | [], _, h => nomatch h
  | (y, qs) :: l, nd, h => by
    rw [List.map_cons, List.nodup_cons] at nd
    rcases List.mem_cons.mp h with e | h
    · cases e
      rw [List.lookup_cons, beq_self_eq_true]
    · have ne : x ≠ y := fun z => nd.1 (z ▸ List.mem_map.mpr ⟨_, h, rfl⟩)
      rw [List.lookup_cons, beq_eq_false_iff_ne.mpr ne]
      exact lookup_mem nd.2 h
theorem odd_look : ∀ x ∈ oddWs, forms.lookup x = none := by decide +kernel
def spStepA : Sp := fun vs H Q _ => ∃ (v : V) (d : PyData), vs = [v] ∧ Dq H v d ∧ szD d = true ∧ okA d ∧ ∀ H', Kp [] H H' → Q (.bl (stepAny d)) H'
section
variable {P : Program} {w : World} {K : PySem.W.Frag} {mg : Str → Option Value} {base : Heap} {T_FORMS T_SIGNS : Addr} {es : Array DictEntry} {n : Nat} {tL : Tok}
theorem oka_is_step {f : Addr} {fd : FuncData} (D : Df K mg "is_step" s_is_step ["step"] f fd) (T : Bt K w mg T_FORMS T_SIGNS es n tL) {fb : Addr} {fdb : FuncData} (D_is_part : Df K mg "is_part" s_is_part ["part", "role"] fb fdb) (G_is_part : FnOk P w K mg base CX0 5 fb fdb ["part", "role"] spPart) : FnOk P w K mg base CX0 6 f fd ["step"] spStepA := by
  refine D.F.ok sc_is_step (fun vs H Q E h => ?_) (fun cdv A outer s H vs Q E hr h => ?_)
  · obtain ⟨_, _, rfl, _⟩ := h
    rfl
  · obtain ⟨v, d, rfl, hv, sz, ok, q⟩ := h
    have hu := hu_of hr
    refine ⟨_, (pss_cons (ps_if (PW.pt (pw_or (pt_not (pt_val (pe_callB (id := "isinstance") (r := rIsi K) call_isi (by rfl) T.b_isinstance (by decide +kernel) (pa_cons (pv 0) (pa_cons (pe_bltn (v := .ty "tuple") (by rfl) T.b_tuple (by decide +kernel) rfl) pa_nil))))) (pw_or (pt_not (pt_truth (pv 0) (by intro _; rfl))) (pw_or (pt_not (pt_val (pe_callB (id := "isinstance") (r := rIsi K) call_isi (by rfl) T.b_isinstance (by decide +kernel) (pa_cons (pe_ix (r := rIxT K) ix_tup (pv 0) pe_int (fun _ _ => rfl)) (pa_cons (pe_bltn (v := .ty "str") (by rfl) T.b_str (by decide +kernel) rfl) pa_nil))))) (pw_or1 (pt_cmpR (op_notIn_kd T.DF) (pe_ix (r := rIxT K) ix_tup (pv 0) pe_int (fun _ _ => rfl)) (pe_glob (v := .ref T_FORMS) rfl T.c_FORMS rfl) (by rfl))))))) (pss_one (ps_ret pe_bl)) pss_nil)
      (pss_cons (ps_set (i := 1) sc_is_step.nd rfl (Or.inl rfl) (pe_ix (r := rIxD K w) ix_kdict (pe_glob (v := .ref T_FORMS) rfl T.c_FORMS rfl) (pe_ix (r := rIxT K) ix_tup (pv 0) pe_int (fun _ _ => rfl)) (fun _ _ => rfl)))
      (pss_cons (ps_if (pt_cmpR op_ne (pe_callB (id := "len") (r := Evl.rLenS K) call_len_seq (by rfl) T.b_len PySem.boot_len (pa_cons (pv 0) pa_nil)) (pe_op op_add (pe_callB (id := "len") (r := Evl.rLenS K) call_len_seq (by rfl) T.b_len PySem.boot_len (pa_cons (pv 1) pa_nil)) pe_int) (nomark _)) (pss_one (ps_ret pe_bl)) pss_nil)
      (pss_one (ps_ret (pe_callB (id := "all") (r := rAll K) (cr_all rfl) (by rfl) T.b_all (by decide +kernel) (pa_cons (pe_lc (own := [("part", 2), ("role", 3)]) (g := (gTup K 2 (gCons (gName 2) (gCons (gName 3) gNil)))) (tt := tYes) rfl sc_is_step.nd (RZ.pi_zipA rfl T.b_zip (pa_cons (pe_slice sl_tup (pv 0) (po_some pe_int) po_none) (pa_cons (pv 1) pa_nil))) (blkOk_by (N := ["step", "roles", "part", "role"]) (sc := defScope s_is_step) (by decide +kernel)) (fun _ _ _ _ _ => (pg_tup (n := 2) (by rfl) (pgs_cons (pg_name (i := 2) sc_is_step.nd rfl (Or.inl rfl)) (pgs_cons (pg_name (i := 3) sc_is_step.nd rfl (Or.inl rfl)) pgs_nil)))) (fun _ _ _ _ _ => pts_nil) (fun _ _ _ _ _ => (pe_call G_is_part (hr.mono (by decide)) rfl D_is_part.g D_is_part.F.kp D_is_part.b .nil pass0 (pa_cons (pv 2) (pa_cons (pv 3) pa_nil))))) pa_nil))))))), ?_⟩
    try simp (maxSteps := 1000000) only [tSeq, tIfS, tTest, tOp, tUn, tCB, tCons, tNil, tVar, tC, rI0, rI, rU, rEq, rNe, tRet, tRetN, tAsg, gName, gSub, tBM, tBM0, tNext, tB, tNot, tAnd, tOr, tIf, tCall, tDrop, tBreak, tCont, L2.start, tDGet, sDPut, tTup, tLst, tDNewK, tRevL, rCat, rAppend, rPop, rSetL, tAndV, tOrV, tNotV, tSl, tPart, tNoPart, tM1, gTup, gCons, gNil, cxK, cxnK, List.map_cons, List.map_nil, List.length_cons, List.length_nil, List.replicate, List.cons_append, List.nil_append, List.append_nil, List.set_cons_zero, List.set_cons_succ, List.getElem?_cons_zero, List.getElem?_cons_succ, Option.some.injEq, V.ref.injEq, V.int.injEq, V.str.injEq, V.bl.injEq, V.ty.injEq, exists_eq_left', exists_eq_left, exists_and_left, List.cons.injEq, and_true, true_and, sc_ii, sc_ss, sc_bb, sc_ni, sc_in, sc_is, sc_si, sc_nn, decide_true, decide_false, reduceCtorEq, Bool.false_eq_true, if_true, if_false, ite_true, ite_false, exists_const, eq_self, false_and, and_false, or_false, false_or, exists_false, Evl.rLenS, rSum, wipe, tYes, exists_eq, exists_eq', rIxL, rIxT, rIxS, exists_and_right, gt_iff_lt, not_true_eq_false, not_false_eq_true, Bool.not_true, Bool.not_false, decide_eq_true_eq, Nat.reduceSub, Nat.reduceAdd, List.append_assoc, tChain, tDIn, tDNotIn, sDDel, tAug, ipI]
    refine isi_Dtup hv ?_
    have no : isTupD d = false → ∃ c, V.bl (isTupD d) = V.bl c ∧ if (!c) = true then Q (V.bl false) H else False := fun e => ⟨false, by rw [e], by rw [if_pos (by decide)]; exact (by
      have : stepAny d = false := by cases d <;> first | rfl | cases e
      rw [this] at q
      exact q H (Kp.refl _ _))⟩
    have nx : ∀ {R : Prop}, isTupD d = false → ∃ c, V.bl (isTupD d) = V.bl c ∧ if (!c) = true then Q (V.bl false) H else R := fun {R} e => by
      obtain ⟨c, h1, h2⟩ := no e
      refine ⟨c, h1, ?_⟩
      split
      · next z => rw [if_pos z] at h2; exact h2
      · next z => rw [if_neg z] at h2; exact h2.elim
    cases hv with
    | @tup a us ds0 e hd0 =>
      try simp (maxSteps := 1000000) only [tSeq, tIfS, tTest, tOp, tUn, tCB, tCons, tNil, tVar, tC, rI0, rI, rU, rEq, rNe, tRet, tRetN, tAsg, gName, gSub, tBM, tBM0, tNext, tB, tNot, tAnd, tOr, tIf, tCall, tDrop, tBreak, tCont, L2.start, tDGet, sDPut, tTup, tLst, tDNewK, tRevL, rCat, rAppend, rPop, rSetL, tAndV, tOrV, tNotV, tSl, tPart, tNoPart, tM1, gTup, gCons, gNil, cxK, cxnK, List.map_cons, List.map_nil, List.length_cons, List.length_nil, List.replicate, List.cons_append, List.nil_append, List.append_nil, List.set_cons_zero, List.set_cons_succ, List.getElem?_cons_zero, List.getElem?_cons_succ, Option.some.injEq, V.ref.injEq, V.int.injEq, V.str.injEq, V.bl.injEq, V.ty.injEq, exists_eq_left', exists_eq_left, exists_and_left, List.cons.injEq, and_true, true_and, sc_ii, sc_ss, sc_bb, sc_ni, sc_in, sc_is, sc_si, sc_nn, decide_true, decide_false, reduceCtorEq, Bool.false_eq_true, if_true, if_false, ite_true, ite_false, exists_const, eq_self, false_and, and_false, or_false, false_or, exists_false, Evl.rLenS, rSum, wipe, tYes, exists_eq, exists_eq', rIxL, rIxT, rIxS, exists_and_right, gt_iff_lt, not_true_eq_false, not_false_eq_true, Bool.not_true, Bool.not_false, decide_eq_true_eq, Nat.reduceSub, Nat.reduceAdd, List.append_assoc, tChain, tDIn, tDNotIn, sDDel, tAug, ipI, isTupD]
      cases hd0 with
      | nil =>
        refine ⟨false, .inr (.inl ⟨_, sq_t e, rfl⟩), ?_⟩
        rw [if_pos (by decide)]
        exact q H (Kp.refl _ _)
      | @cons v0 ps d0 ds h0 hd =>
        have bad : isStrD d0 = false → stepAny (.tuple (d0 :: ds)) = false := fun e => by cases d0 <;> first | rfl | cases e
        by_cases hs : isStrD d0 = true
        · cases h0 with
          | str x =>
            by_cases od : x ∈ oddWs
            · refine ⟨true, .inr (.inl ⟨_, sq_t e, rfl⟩), ?_⟩
              try simp (maxSteps := 1000000) only [tSeq, tIfS, tTest, tOp, tUn, tCB, tCons, tNil, tVar, tC, rI0, rI, rU, rEq, rNe, tRet, tRetN, tAsg, gName, gSub, tBM, tBM0, tNext, tB, tNot, tAnd, tOr, tIf, tCall, tDrop, tBreak, tCont, L2.start, tDGet, sDPut, tTup, tLst, tDNewK, tRevL, rCat, rAppend, rPop, rSetL, tAndV, tOrV, tNotV, tSl, tPart, tNoPart, tM1, gTup, gCons, gNil, cxK, cxnK, List.map_cons, List.map_nil, List.length_cons, List.length_nil, List.replicate, List.cons_append, List.nil_append, List.append_nil, List.set_cons_zero, List.set_cons_succ, List.getElem?_cons_zero, List.getElem?_cons_succ, Option.some.injEq, V.ref.injEq, V.int.injEq, V.str.injEq, V.bl.injEq, V.ty.injEq, exists_eq_left', exists_eq_left, exists_and_left, List.cons.injEq, and_true, true_and, sc_ii, sc_ss, sc_bb, sc_ni, sc_in, sc_is, sc_si, sc_nn, decide_true, decide_false, reduceCtorEq, Bool.false_eq_true, if_true, if_false, ite_true, ite_false, exists_const, eq_self, false_and, and_false, or_false, false_or, exists_false, Evl.rLenS, rSum, wipe, tYes, exists_eq, exists_eq', rIxL, rIxT, rIxS, exists_and_right, gt_iff_lt, not_true_eq_false, not_false_eq_true, Bool.not_true, Bool.not_false, decide_eq_true_eq, Nat.reduceSub, Nat.reduceAdd, List.append_assoc, tChain, tDIn, tDNotIn, sDDel, tAug, ipI]
              refine ⟨_, sq_t e, _, atI_of (by decide) rfl, ?_⟩
              refine isi_str_str ?_
              try simp (maxSteps := 1000000) only [tSeq, tIfS, tTest, tOp, tUn, tCB, tCons, tNil, tVar, tC, rI0, rI, rU, rEq, rNe, tRet, tRetN, tAsg, gName, gSub, tBM, tBM0, tNext, tB, tNot, tAnd, tOr, tIf, tCall, tDrop, tBreak, tCont, L2.start, tDGet, sDPut, tTup, tLst, tDNewK, tRevL, rCat, rAppend, rPop, rSetL, tAndV, tOrV, tNotV, tSl, tPart, tNoPart, tM1, gTup, gCons, gNil, cxK, cxnK, List.map_cons, List.map_nil, List.length_cons, List.length_nil, List.replicate, List.cons_append, List.nil_append, List.append_nil, List.set_cons_zero, List.set_cons_succ, List.getElem?_cons_zero, List.getElem?_cons_succ, Option.some.injEq, V.ref.injEq, V.int.injEq, V.str.injEq, V.bl.injEq, V.ty.injEq, exists_eq_left', exists_eq_left, exists_and_left, List.cons.injEq, and_true, true_and, sc_ii, sc_ss, sc_bb, sc_ni, sc_in, sc_is, sc_si, sc_nn, decide_true, decide_false, reduceCtorEq, Bool.false_eq_true, if_true, if_false, ite_true, ite_false, exists_const, eq_self, false_and, and_false, or_false, false_or, exists_false, Evl.rLenS, rSum, wipe, tYes, exists_eq, exists_eq', rIxL, rIxT, rIxS, exists_and_right, gt_iff_lt, not_true_eq_false, not_false_eq_true, Bool.not_true, Bool.not_false, decide_eq_true_eq, Nat.reduceSub, Nat.reduceAdd, List.append_assoc, tChain, tDIn, tDNotIn, sDDel, tAug, ipI]
              refine ⟨_, sq_t e, _, atI_of (by decide) rfl, x, rfl, _, T.fo x od, ?_⟩
              try simp (maxSteps := 1000000) only [tSeq, tIfS, tTest, tOp, tUn, tCB, tCons, tNil, tVar, tC, rI0, rI, rU, rEq, rNe, tRet, tRetN, tAsg, gName, gSub, tBM, tBM0, tNext, tB, tNot, tAnd, tOr, tIf, tCall, tDrop, tBreak, tCont, L2.start, tDGet, sDPut, tTup, tLst, tDNewK, tRevL, rCat, rAppend, rPop, rSetL, tAndV, tOrV, tNotV, tSl, tPart, tNoPart, tM1, gTup, gCons, gNil, cxK, cxnK, List.map_cons, List.map_nil, List.length_cons, List.length_nil, List.replicate, List.cons_append, List.nil_append, List.append_nil, List.set_cons_zero, List.set_cons_succ, List.getElem?_cons_zero, List.getElem?_cons_succ, Option.some.injEq, V.ref.injEq, V.int.injEq, V.str.injEq, V.bl.injEq, V.ty.injEq, exists_eq_left', exists_eq_left, exists_and_left, List.cons.injEq, and_true, true_and, sc_ii, sc_ss, sc_bb, sc_ni, sc_in, sc_is, sc_si, sc_nn, decide_true, decide_false, reduceCtorEq, Bool.false_eq_true, if_true, if_false, ite_true, ite_false, exists_const, eq_self, false_and, and_false, or_false, false_or, exists_false, Evl.rLenS, rSum, wipe, tYes, exists_eq, exists_eq', rIxL, rIxT, rIxS, exists_and_right, gt_iff_lt, not_true_eq_false, not_false_eq_true, Bool.not_true, Bool.not_false, decide_eq_true_eq, Nat.reduceSub, Nat.reduceAdd, List.append_assoc, tChain, tDIn, tDNotIn, sDDel, tAug, ipI, Option.isSome]
              have : stepAny (.tuple (.str x :: ds)) = false := by simp only [stepAny, odd_look x od]
              rw [this] at q
              exact q H (Kp.refl _ _)
            · obtain ⟨rs, hf, sg, hl⟩ : ∃ rs, (x, rs) ∈ forms ∧ SgR rs ds ∧ ds.length ≤ 1000 := ok.elim id fun z => absurd z od
              obtain ⟨R, hR, wR⟩ := T.fm _ hf
              have len := hd.len
              have sz : szAll ds = true := by
                have h' : (szD (.str x) && szAll ds) = true := sz
                rw [Bool.and_eq_true] at h'
                exact h'.2
              have q : ∀ H', Kp [] H H' → Q (.bl (stepD rs ds)) H' := by
                have : stepAny (.tuple (.str x :: ds)) = stepD rs ds := by simp only [stepAny, lookup_mem forms_nd hf]
                rw [this] at q
                exact q
              try simp (maxSteps := 1000000) only [tSeq, tIfS, tTest, tOp, tUn, tCB, tCons, tNil, tVar, tC, rI0, rI, rU, rEq, rNe, tRet, tRetN, tAsg, gName, gSub, tBM, tBM0, tNext, tB, tNot, tAnd, tOr, tIf, tCall, tDrop, tBreak, tCont, L2.start, tDGet, sDPut, tTup, tLst, tDNewK, tRevL, rCat, rAppend, rPop, rSetL, tAndV, tOrV, tNotV, tSl, tPart, tNoPart, tM1, gTup, gCons, gNil, cxK, cxnK, List.map_cons, List.map_nil, List.length_cons, List.length_nil, List.replicate, List.cons_append, List.nil_append, List.append_nil, List.set_cons_zero, List.set_cons_succ, List.getElem?_cons_zero, List.getElem?_cons_succ, Option.some.injEq, V.ref.injEq, V.int.injEq, V.str.injEq, V.bl.injEq, V.ty.injEq, exists_eq_left', exists_eq_left, exists_and_left, List.cons.injEq, and_true, true_and, sc_ii, sc_ss, sc_bb, sc_ni, sc_in, sc_is, sc_si, sc_nn, decide_true, decide_false, reduceCtorEq, Bool.false_eq_true, if_true, if_false, ite_true, ite_false, exists_const, eq_self, false_and, and_false, or_false, false_or, exists_false, Evl.rLenS, rSum, wipe, tYes, exists_eq, exists_eq', rIxL, rIxT, rIxS, exists_and_right, gt_iff_lt, not_true_eq_false, not_false_eq_true, Bool.not_true, Bool.not_false, decide_eq_true_eq, Nat.reduceSub, Nat.reduceAdd, List.append_assoc, tChain, tDIn, tDNotIn, sDDel, tAug, ipI]
              refine ⟨true, .inr (.inl ⟨_, sq_t e, rfl⟩), ?_⟩
              try simp (maxSteps := 1000000) only [tSeq, tIfS, tTest, tOp, tUn, tCB, tCons, tNil, tVar, tC, rI0, rI, rU, rEq, rNe, tRet, tRetN, tAsg, gName, gSub, tBM, tBM0, tNext, tB, tNot, tAnd, tOr, tIf, tCall, tDrop, tBreak, tCont, L2.start, tDGet, sDPut, tTup, tLst, tDNewK, tRevL, rCat, rAppend, rPop, rSetL, tAndV, tOrV, tNotV, tSl, tPart, tNoPart, tM1, gTup, gCons, gNil, cxK, cxnK, List.map_cons, List.map_nil, List.length_cons, List.length_nil, List.replicate, List.cons_append, List.nil_append, List.append_nil, List.set_cons_zero, List.set_cons_succ, List.getElem?_cons_zero, List.getElem?_cons_succ, Option.some.injEq, V.ref.injEq, V.int.injEq, V.str.injEq, V.bl.injEq, V.ty.injEq, exists_eq_left', exists_eq_left, exists_and_left, List.cons.injEq, and_true, true_and, sc_ii, sc_ss, sc_bb, sc_ni, sc_in, sc_is, sc_si, sc_nn, decide_true, decide_false, reduceCtorEq, Bool.false_eq_true, if_true, if_false, ite_true, ite_false, exists_const, eq_self, false_and, and_false, or_false, false_or, exists_false, Evl.rLenS, rSum, wipe, tYes, exists_eq, exists_eq', rIxL, rIxT, rIxS, exists_and_right, gt_iff_lt, not_true_eq_false, not_false_eq_true, Bool.not_true, Bool.not_false, decide_eq_true_eq, Nat.reduceSub, Nat.reduceAdd, List.append_assoc, tChain, tDIn, tDNotIn, sDDel, tAug, ipI]
              refine ⟨_, sq_t e, _, atI_of (by decide) rfl, ?_⟩
              refine isi_str_str ?_
              try simp (maxSteps := 1000000) only [tSeq, tIfS, tTest, tOp, tUn, tCB, tCons, tNil, tVar, tC, rI0, rI, rU, rEq, rNe, tRet, tRetN, tAsg, gName, gSub, tBM, tBM0, tNext, tB, tNot, tAnd, tOr, tIf, tCall, tDrop, tBreak, tCont, L2.start, tDGet, sDPut, tTup, tLst, tDNewK, tRevL, rCat, rAppend, rPop, rSetL, tAndV, tOrV, tNotV, tSl, tPart, tNoPart, tM1, gTup, gCons, gNil, cxK, cxnK, List.map_cons, List.map_nil, List.length_cons, List.length_nil, List.replicate, List.cons_append, List.nil_append, List.append_nil, List.set_cons_zero, List.set_cons_succ, List.getElem?_cons_zero, List.getElem?_cons_succ, Option.some.injEq, V.ref.injEq, V.int.injEq, V.str.injEq, V.bl.injEq, V.ty.injEq, exists_eq_left', exists_eq_left, exists_and_left, List.cons.injEq, and_true, true_and, sc_ii, sc_ss, sc_bb, sc_ni, sc_in, sc_is, sc_si, sc_nn, decide_true, decide_false, reduceCtorEq, Bool.false_eq_true, if_true, if_false, ite_true, ite_false, exists_const, eq_self, false_and, and_false, or_false, false_or, exists_false, Evl.rLenS, rSum, wipe, tYes, exists_eq, exists_eq', rIxL, rIxT, rIxS, exists_and_right, gt_iff_lt, not_true_eq_false, not_false_eq_true, Bool.not_true, Bool.not_false, decide_eq_true_eq, Nat.reduceSub, Nat.reduceAdd, List.append_assoc, tChain, tDIn, tDNotIn, sDDel, tAug, ipI]
              refine ⟨_, sq_t e, _, atI_of (by decide) rfl, x, rfl, _, hR, ?_⟩
              try simp (maxSteps := 1000000) only [tSeq, tIfS, tTest, tOp, tUn, tCB, tCons, tNil, tVar, tC, rI0, rI, rU, rEq, rNe, tRet, tRetN, tAsg, gName, gSub, tBM, tBM0, tNext, tB, tNot, tAnd, tOr, tIf, tCall, tDrop, tBreak, tCont, L2.start, tDGet, sDPut, tTup, tLst, tDNewK, tRevL, rCat, rAppend, rPop, rSetL, tAndV, tOrV, tNotV, tSl, tPart, tNoPart, tM1, gTup, gCons, gNil, cxK, cxnK, List.map_cons, List.map_nil, List.length_cons, List.length_nil, List.replicate, List.cons_append, List.nil_append, List.append_nil, List.set_cons_zero, List.set_cons_succ, List.getElem?_cons_zero, List.getElem?_cons_succ, Option.some.injEq, V.ref.injEq, V.int.injEq, V.str.injEq, V.bl.injEq, V.ty.injEq, exists_eq_left', exists_eq_left, exists_and_left, List.cons.injEq, and_true, true_and, sc_ii, sc_ss, sc_bb, sc_ni, sc_in, sc_is, sc_si, sc_nn, decide_true, decide_false, reduceCtorEq, Bool.false_eq_true, if_true, if_false, ite_true, ite_false, exists_const, eq_self, false_and, and_false, or_false, false_or, exists_false, Evl.rLenS, rSum, wipe, tYes, exists_eq, exists_eq', rIxL, rIxT, rIxS, exists_and_right, gt_iff_lt, not_true_eq_false, not_false_eq_true, Bool.not_true, Bool.not_false, decide_eq_true_eq, Nat.reduceSub, Nat.reduceAdd, List.append_assoc, tChain, tDIn, tDNotIn, sDDel, tAug, ipI, Option.isSome]
              refine ⟨_, sq_t e, _, atI_of (by decide) rfl, T_FORMS, x, .ref R, rfl, rfl, ⟨es, n, .ref R, T.DF.at_, T.DF.lit, hR, rfl⟩, ?_⟩
              try simp (maxSteps := 1000000) only [tSeq, tIfS, tTest, tOp, tUn, tCB, tCons, tNil, tVar, tC, rI0, rI, rU, rEq, rNe, tRet, tRetN, tAsg, gName, gSub, tBM, tBM0, tNext, tB, tNot, tAnd, tOr, tIf, tCall, tDrop, tBreak, tCont, L2.start, tDGet, sDPut, tTup, tLst, tDNewK, tRevL, rCat, rAppend, rPop, rSetL, tAndV, tOrV, tNotV, tSl, tPart, tNoPart, tM1, gTup, gCons, gNil, cxK, cxnK, List.map_cons, List.map_nil, List.length_cons, List.length_nil, List.replicate, List.cons_append, List.nil_append, List.append_nil, List.set_cons_zero, List.set_cons_succ, List.getElem?_cons_zero, List.getElem?_cons_succ, Option.some.injEq, V.ref.injEq, V.int.injEq, V.str.injEq, V.bl.injEq, V.ty.injEq, exists_eq_left', exists_eq_left, exists_and_left, List.cons.injEq, and_true, true_and, sc_ii, sc_ss, sc_bb, sc_ni, sc_in, sc_is, sc_si, sc_nn, decide_true, decide_false, reduceCtorEq, Bool.false_eq_true, if_true, if_false, ite_true, ite_false, exists_const, eq_self, false_and, and_false, or_false, false_or, exists_false, Evl.rLenS, rSum, wipe, tYes, exists_eq, exists_eq', rIxL, rIxT, rIxS, exists_and_right, gt_iff_lt, not_true_eq_false, not_false_eq_true, Bool.not_true, Bool.not_false, decide_eq_true_eq, Nat.reduceSub, Nat.reduceAdd, List.append_assoc, tChain, tDIn, tDNotIn, sDDel, tAug, ipI]
              refine ⟨_, .inr (sq_t e), _, .inr (.inr wR), ?_⟩
              rw [List.length_map, List.length_cons, len]
              unfold stepD at q
              by_cases hlen : ds.length = rs.length
              · have e1 : ((ds.length + 1 : Nat) : Int) = ((rs.length : Nat) : Int) + 1 := by omega
                rw [beq_iff_eq.mpr hlen] at q
                try simp (maxSteps := 1000000) only [tSeq, tIfS, tTest, tOp, tUn, tCB, tCons, tNil, tVar, tC, rI0, rI, rU, rEq, rNe, tRet, tRetN, tAsg, gName, gSub, tBM, tBM0, tNext, tB, tNot, tAnd, tOr, tIf, tCall, tDrop, tBreak, tCont, L2.start, tDGet, sDPut, tTup, tLst, tDNewK, tRevL, rCat, rAppend, rPop, rSetL, tAndV, tOrV, tNotV, tSl, tPart, tNoPart, tM1, gTup, gCons, gNil, cxK, cxnK, List.map_cons, List.map_nil, List.length_cons, List.length_nil, List.replicate, List.cons_append, List.nil_append, List.append_nil, List.set_cons_zero, List.set_cons_succ, List.getElem?_cons_zero, List.getElem?_cons_succ, Option.some.injEq, V.ref.injEq, V.int.injEq, V.str.injEq, V.bl.injEq, V.ty.injEq, exists_eq_left', exists_eq_left, exists_and_left, List.cons.injEq, and_true, true_and, sc_ii, sc_ss, sc_bb, sc_ni, sc_in, sc_is, sc_si, sc_nn, decide_true, decide_false, reduceCtorEq, Bool.false_eq_true, if_true, if_false, ite_true, ite_false, exists_const, eq_self, false_and, and_false, or_false, false_or, exists_false, Evl.rLenS, rSum, wipe, tYes, exists_eq, exists_eq', rIxL, rIxT, rIxS, exists_and_right, gt_iff_lt, not_true_eq_false, not_false_eq_true, Bool.not_true, Bool.not_false, decide_eq_true_eq, Nat.reduceSub, Nat.reduceAdd, List.append_assoc, tChain, tDIn, tDNotIn, sDDel, tAug, ipI, e1]
                refine ⟨.ref a, rfl, ?_⟩
                try simp (maxSteps := 1000000) only [tSeq, tIfS, tTest, tOp, tUn, tCB, tCons, tNil, tVar, tC, rI0, rI, rU, rEq, rNe, tRet, tRetN, tAsg, gSub, tBM, tBM0, tNext, tB, tNot, tAnd, tOr, tIf, tDrop, tBreak, tCont, L2.start, tDGet, sDPut, tTup, tLst, tDNewK, tRevL, rCat, rAppend, rPop, rSetL, tAndV, tOrV, tNotV, tSl, tPart, tNoPart, tM1, cxK, cxnK, List.map_cons, List.map_nil, List.length_cons, List.length_nil, List.replicate, List.cons_append, List.nil_append, List.append_nil, List.set_cons_zero, List.set_cons_succ, List.getElem?_cons_zero, List.getElem?_cons_succ, Option.some.injEq, V.ref.injEq, V.int.injEq, V.str.injEq, V.bl.injEq, V.ty.injEq, exists_eq_left', exists_eq_left, exists_and_left, List.cons.injEq, and_true, true_and, sc_ii, sc_ss, sc_bb, sc_ni, sc_in, sc_is, sc_si, sc_nn, decide_true, decide_false, reduceCtorEq, Bool.false_eq_true, if_true, if_false, ite_true, ite_false, exists_const, eq_self, false_and, and_false, or_false, false_or, exists_false, Evl.rLenS, rSum, exists_eq, exists_eq', rIxL, rIxT, rIxS, exists_and_right, gt_iff_lt, not_true_eq_false, not_false_eq_true, Bool.not_true, Bool.not_false, decide_eq_true_eq, Nat.reduceSub, Nat.reduceAdd, List.append_assoc, tChain, tDIn, tDNotIn, sDDel, tAug, ipI, rSlT]
                refine ⟨_, sq_t e, cut1_ne, fun p np => ?_⟩
                rw [cut1]
                refine ⟨p, R, ⟨rfl, rfl⟩, ps, rs.map V.str, .inr ⟨sq_t upd_same, .inr wR, fun D nD => ?_⟩⟩
                have k0 : Kp [] H (upd H p (.tup ps)) := Kp.new np
                have hp0 : (upd H p (.tup ps)) p = some (.tup ps) := upd_same
                have hlen' : ds.length = rs.length := hlen
                have zl : (ds.zip rs).length = ds.length := by rw [List.length_zip, hlen', Nat.min_self]
                refine lc_it (walk_zipT (n := ds.length) (by rw [len, List.length_map, ← hlen', Nat.min_self])) (AllIn (fun z => partD z.2 z.1) (ds.zip rs) D (upd H p (.tup ps))) ⟨upd_same, Kp.new nD⟩ (fun i H1 _ h => ⟨sq_t (h.2 _ _ not0 hp0), .inr wR⟩) ?_ ?_
                · rintro i x H1 H2 hi h ⟨t, u, v, rfl, nt, rfl, e1, e2⟩
                  obtain ⟨d, ed, hdd⟩ := hd.get e1
                  obtain ⟨r, er, rfl⟩ : ∃ r, rs[i]? = some r ∧ v = V.str r := by
                    have e2 : (rs.map V.str)[i]? = some v := e2
                    rw [List.getElem?_map] at e2
                    cases er : rs[i]? with
                    | none => rw [er] at e2; cases e2
                    | some r => rw [er] at e2; exact ⟨r, rfl, (Option.some.inj e2).symm⟩
                  try simp (maxSteps := 1000000) only [tSeq, tIfS, tTest, tOp, tUn, tCB, tCons, tNil, tVar, tC, rI0, rI, rU, rEq, rNe, tRet, tRetN, tAsg, gName, gSub, tBM, tBM0, tNext, tB, tNot, tAnd, tOr, tIf, tCall, tDrop, tBreak, tCont, L2.start, tDGet, sDPut, tTup, tLst, tDNewK, tRevL, rCat, rAppend, rPop, rSetL, tAndV, tOrV, tNotV, tSl, tPart, tNoPart, tM1, gTup, gCons, gNil, cxK, cxnK, List.map_cons, List.map_nil, List.length_cons, List.length_nil, List.replicate, List.cons_append, List.nil_append, List.append_nil, List.set_cons_zero, List.set_cons_succ, List.getElem?_cons_zero, List.getElem?_cons_succ, Option.some.injEq, V.ref.injEq, V.int.injEq, V.str.injEq, V.bl.injEq, V.ty.injEq, exists_eq_left', exists_eq_left, exists_and_left, List.cons.injEq, and_true, true_and, sc_ii, sc_ss, sc_bb, sc_ni, sc_in, sc_is, sc_si, sc_nn, decide_true, decide_false, reduceCtorEq, Bool.false_eq_true, if_true, if_false, ite_true, ite_false, exists_const, eq_self, false_and, and_false, or_false, false_or, exists_false, Evl.rLenS, rSum, wipe, tYes, exists_eq, exists_eq', rIxL, rIxT, rIxS, exists_and_right, gt_iff_lt, not_true_eq_false, not_false_eq_true, Bool.not_true, Bool.not_false, decide_eq_true_eq, Nat.reduceSub, Nat.reduceAdd, List.append_assoc, tChain, tDIn, tDNotIn, sDDel, tAug, ipI]
                  refine ⟨_, sq_t upd_same, rfl, _, _, rfl, _, _, rfl, rfl, ?_⟩
                  have k1 : Kp [] H1 (upd H1 t (.tup [u, .str r])) := Kp.new nt
                  refine ⟨u, d, r, rfl, hdd.kp ((k0.trans h.2).trans k1), szAll_mem sz d (List.mem_of_getElem? ed), fun er0 => sg i d ed (by rw [er, er0]; rfl), fun H3 k3 => ?_⟩
                  exact allIn_step (g := fun z : PyData × Str => partD z.2 z.1) (d := (d, r)) nD h (k1.trans k3) (by rw [List.getElem?_zip_eq_some]; exact ⟨ed, er⟩) (by omega)
                · intro H1 h
                  rw [← zl] at h
                  exact allIn_end h (q _ (k0.trans h.2))
              · have e1 : ¬ ((ds.length + 1 : Nat) : Int) = ((rs.length : Nat) : Int) + 1 := by omega
                rw [beq_eq_false_iff_ne.mpr hlen] at q
                try simp (maxSteps := 1000000) only [tSeq, tIfS, tTest, tOp, tUn, tCB, tCons, tNil, tVar, tC, rI0, rI, rU, rEq, rNe, tRet, tRetN, tAsg, gName, gSub, tBM, tBM0, tNext, tB, tNot, tAnd, tOr, tIf, tCall, tDrop, tBreak, tCont, L2.start, tDGet, sDPut, tTup, tLst, tDNewK, tRevL, rCat, rAppend, rPop, rSetL, tAndV, tOrV, tNotV, tSl, tPart, tNoPart, tM1, gTup, gCons, gNil, cxK, cxnK, List.map_cons, List.map_nil, List.length_cons, List.length_nil, List.replicate, List.cons_append, List.nil_append, List.append_nil, List.set_cons_zero, List.set_cons_succ, List.getElem?_cons_zero, List.getElem?_cons_succ, Option.some.injEq, V.ref.injEq, V.int.injEq, V.str.injEq, V.bl.injEq, V.ty.injEq, exists_eq_left', exists_eq_left, exists_and_left, List.cons.injEq, and_true, true_and, sc_ii, sc_ss, sc_bb, sc_ni, sc_in, sc_is, sc_si, sc_nn, decide_true, decide_false, reduceCtorEq, Bool.false_eq_true, if_true, if_false, ite_true, ite_false, exists_const, eq_self, false_and, and_false, or_false, false_or, exists_false, Evl.rLenS, rSum, wipe, tYes, exists_eq, exists_eq', rIxL, rIxT, rIxS, exists_and_right, gt_iff_lt, not_true_eq_false, not_false_eq_true, Bool.not_true, Bool.not_false, decide_eq_true_eq, Nat.reduceSub, Nat.reduceAdd, List.append_assoc, tChain, tDIn, tDNotIn, sDDel, tAug, ipI, e1]
                exact q _ (Kp.refl _ _)
          | _ => cases hs
        · rw [Bool.not_eq_true] at hs
          refine ⟨true, .inr (.inl ⟨_, sq_t e, rfl⟩), ?_⟩
          try simp (maxSteps := 1000000) only [tSeq, tIfS, tTest, tOp, tUn, tCB, tCons, tNil, tVar, tC, rI0, rI, rU, rEq, rNe, tRet, tRetN, tAsg, gName, gSub, tBM, tBM0, tNext, tB, tNot, tAnd, tOr, tIf, tCall, tDrop, tBreak, tCont, L2.start, tDGet, sDPut, tTup, tLst, tDNewK, tRevL, rCat, rAppend, rPop, rSetL, tAndV, tOrV, tNotV, tSl, tPart, tNoPart, tM1, gTup, gCons, gNil, cxK, cxnK, List.map_cons, List.map_nil, List.length_cons, List.length_nil, List.replicate, List.cons_append, List.nil_append, List.append_nil, List.set_cons_zero, List.set_cons_succ, List.getElem?_cons_zero, List.getElem?_cons_succ, Option.some.injEq, V.ref.injEq, V.int.injEq, V.str.injEq, V.bl.injEq, V.ty.injEq, exists_eq_left', exists_eq_left, exists_and_left, List.cons.injEq, and_true, true_and, sc_ii, sc_ss, sc_bb, sc_ni, sc_in, sc_is, sc_si, sc_nn, decide_true, decide_false, reduceCtorEq, Bool.false_eq_true, if_true, if_false, ite_true, ite_false, exists_const, eq_self, false_and, and_false, or_false, false_or, exists_false, Evl.rLenS, rSum, wipe, tYes, exists_eq, exists_eq', rIxL, rIxT, rIxS, exists_and_right, gt_iff_lt, not_true_eq_false, not_false_eq_true, Bool.not_true, Bool.not_false, decide_eq_true_eq, Nat.reduceSub, Nat.reduceAdd, List.append_assoc, tChain, tDIn, tDNotIn, sDDel, tAug, ipI]
          refine ⟨_, sq_t e, _, atI_of (by decide) rfl, ?_⟩
          refine isi_Dstr h0 ⟨_, rfl, ?_⟩
          rw [hs, if_pos (by decide)]
          rw [bad hs] at q
          exact q H (Kp.refl _ _)
    | _ => exact nx rfl
end
end My

set_option Elab.async false
set_option linter.all false
set_option maxRecDepth 100000
set_option maxHeartbeats 4000000
namespace My
open PySem L2 NdefX
abbrev s_Operation_init : Stmt := mtop 23 0
theorem sc_Operation_init : FnScope ["self", "name", "steps", "turns", "otherwise", "at", "step", "fault"] ["self", "name", "steps", "turns", "otherwise"] (defScope s_Operation_init) := ⟨rfl, rfl, rfl, by decide +kernel, rfl, by decide +kernel, by decide +kernel⟩
abbrev s_Operation_steps : Stmt := mtop 23 1
theorem sc_Operation_steps : FnScope ["self"] ["self"] (defScope s_Operation_steps) := ⟨rfl, rfl, rfl, by decide +kernel, rfl, by decide +kernel, by decide +kernel⟩
abbrev s_BadName_init : Stmt := mtop 3 0
theorem sc_BadName_init : NScope ["self", "name", "__class__"] ["self", "name"] ["__class__"] (defScope s_BadName_init) := nscope_by (by decide +kernel)
theorem ok_BadName_init {P : Program} {w : World} {K : PySem.W.Frag} {mg : Str → Option Value} {base : Heap} {CX : CXT} {f cc cda C : Addr} {fd : FuncData} (F : FunX K "__init__" "BadName.__init__" s_BadName_init f fd cc cda C) (T : ErrC K C) (G : CodeF K P cda) (hsup : mg "super" = none) (n1 : PySem.W.findIn K (.ref C) "name" = some none) {Pf : V → Prop} :
    FnOk P w K mg base CX 1 f fd ["self", "name"] (spErr1 C "name" Pf) := by
  have F0 := F
  obtain ⟨oc, od, kV, doc, pm, an, ct, osl, hfd, lk, hcd⟩ := F0.ex
  obtain ⟨cl, cld, csl, hcc⟩ := F0.cell
  refine F.ok sc_BadName_init (fun vs H Q E h => ?_) (fun A outer s H vs Q E hr h => ?_)
  · obtain ⟨a, v, rfl, _⟩ := h
    rfl
  · obtain ⟨a, v, rfl, hp, ha, q⟩ := h
    refine ⟨_, psat_cons (psat_sup T G lk (by rw [hfd]; rfl) hcc hsup rfl rfl rfl rfl rfl rfl rfl (pa_cons pe_str pa_nil) rfl rfl rfl rfl rfl) (pss_one (ps_ost (pv 0) (pv 1))), ?_⟩
    try simp (maxSteps := 1000000) only [tSeq, tIfS, tTest, tOp, tUn, tCB, tCons, tNil, tVar, tC, rI0, rI, rU, rEq, rNe, tRet, tRetN, tAsg, gName, gSub, tBM, tBM0, tNext, tB, tNot, tAnd, tOr, tIf, tCall, tDrop, tBreak, tCont, L2.start, tDGet, sDPut, tTup, tLst, tDNewK, tRevL, rCat, rAppend, rPop, rSetL, tAndV, tOrV, tNotV, tSl, tPart, tNoPart, tM1, gTup, gCons, gNil, cxK, cxnK, List.map_cons, List.map_nil, List.length_cons, List.length_nil, List.replicate, List.cons_append, List.nil_append, List.append_nil, List.set_cons_zero, List.set_cons_succ, List.getElem?_cons_zero, List.getElem?_cons_succ, Option.some.injEq, V.ref.injEq, V.int.injEq, V.str.injEq, V.bl.injEq, V.ty.injEq, exists_eq_left', exists_eq_left, exists_and_left, List.cons.injEq, and_true, true_and, sc_ii, sc_ss, sc_bb, sc_ni, sc_in, sc_is, sc_si, sc_nn, decide_true, decide_false, reduceCtorEq, Bool.false_eq_true, if_true, if_false, ite_true, ite_false, exists_const, eq_self, false_and, and_false, or_false, false_or, exists_false, Evl.rLenS, rSum, wipe, tYes, exists_eq, exists_eq', rIxL, rIxT, rIxS, exists_and_right, gt_iff_lt, not_true_eq_false, not_false_eq_true, Bool.not_true, Bool.not_false, decide_eq_true_eq, Nat.reduceSub, Nat.reduceAdd, List.append_assoc, tChain, tDIn, tDNotIn, sDDel, tAug, ipI, startF, tSupI, tOst]
    exact ⟨ha, by decide, ha, C, T.ox, n1, .inl ⟨ha, q⟩⟩
abbrev s_BadNumber_init : Stmt := mtop 4 0
theorem sc_BadNumber_init : NScope ["self", "number", "__class__"] ["self", "number"] ["__class__"] (defScope s_BadNumber_init) := nscope_by (by decide +kernel)
theorem ok_BadNumber_init {P : Program} {w : World} {K : PySem.W.Frag} {mg : Str → Option Value} {base : Heap} {CX : CXT} {f cc cda C : Addr} {fd : FuncData} (F : FunX K "__init__" "BadNumber.__init__" s_BadNumber_init f fd cc cda C) (T : ErrC K C) (G : CodeF K P cda) (hsup : mg "super" = none) (n1 : PySem.W.findIn K (.ref C) "number" = some none) {Pf : V → Prop} :
    FnOk P w K mg base CX 1 f fd ["self", "number"] (spErr1 C "number" Pf) := by
  have F0 := F
  obtain ⟨oc, od, kV, doc, pm, an, ct, osl, hfd, lk, hcd⟩ := F0.ex
  obtain ⟨cl, cld, csl, hcc⟩ := F0.cell
  refine F.ok sc_BadNumber_init (fun vs H Q E h => ?_) (fun A outer s H vs Q E hr h => ?_)
  · obtain ⟨a, v, rfl, _⟩ := h
    rfl
  · obtain ⟨a, v, rfl, hp, ha, q⟩ := h
    refine ⟨_, psat_cons (psat_sup T G lk (by rw [hfd]; rfl) hcc hsup rfl rfl rfl rfl rfl rfl rfl (pa_cons pe_str pa_nil) rfl rfl rfl rfl rfl) (pss_one (ps_ost (pv 0) (pv 1))), ?_⟩
    try simp (maxSteps := 1000000) only [tSeq, tIfS, tTest, tOp, tUn, tCB, tCons, tNil, tVar, tC, rI0, rI, rU, rEq, rNe, tRet, tRetN, tAsg, gName, gSub, tBM, tBM0, tNext, tB, tNot, tAnd, tOr, tIf, tCall, tDrop, tBreak, tCont, L2.start, tDGet, sDPut, tTup, tLst, tDNewK, tRevL, rCat, rAppend, rPop, rSetL, tAndV, tOrV, tNotV, tSl, tPart, tNoPart, tM1, gTup, gCons, gNil, cxK, cxnK, List.map_cons, List.map_nil, List.length_cons, List.length_nil, List.replicate, List.cons_append, List.nil_append, List.append_nil, List.set_cons_zero, List.set_cons_succ, List.getElem?_cons_zero, List.getElem?_cons_succ, Option.some.injEq, V.ref.injEq, V.int.injEq, V.str.injEq, V.bl.injEq, V.ty.injEq, exists_eq_left', exists_eq_left, exists_and_left, List.cons.injEq, and_true, true_and, sc_ii, sc_ss, sc_bb, sc_ni, sc_in, sc_is, sc_si, sc_nn, decide_true, decide_false, reduceCtorEq, Bool.false_eq_true, if_true, if_false, ite_true, ite_false, exists_const, eq_self, false_and, and_false, or_false, false_or, exists_false, Evl.rLenS, rSum, wipe, tYes, exists_eq, exists_eq', rIxL, rIxT, rIxS, exists_and_right, gt_iff_lt, not_true_eq_false, not_false_eq_true, Bool.not_true, Bool.not_false, decide_eq_true_eq, Nat.reduceSub, Nat.reduceAdd, List.append_assoc, tChain, tDIn, tDNotIn, sDDel, tAug, ipI, startF, tSupI, tOst]
    exact ⟨ha, by decide, ha, C, T.ox, n1, .inl ⟨ha, q⟩⟩
/-- what stands of the class Operation -/
structure OpC (K : PySem.W.Frag) (mg : Str → Option Value) (OP : Addr) : Prop where
  k : mg "Operation" = some (.ref OP)
  cl : Cls K OP
  n1 : NoAttr K OP "name"
  n2 : NoAttr K OP "turns"
  n3 : NoAttr K OP "otherwise"
  n4 : NoAttr K OP "_steps"
/-- what stands of the class BadStep, and its __init__ -/
structure BsC (P : Program) (w : World) (K : PySem.W.Frag) (mg : Str → Option Value) (base : Heap) (BS fB : Addr) (fdB : FuncData) : Prop where
  k : mg "BadStep" = some (.ref BS)
  ox : OexC K BS
  ic : PySem.W.findIn K (.ref BS) "__init__" = some (some (.ref fB))
  ti : PySem.W.typeIn K (.ref fB) = some (.type "function")
  b : Binds K fdB ["self", "name", "at"] []
  G : FnOk P w K mg base (L2.CX P w) 1 fB fdB ["self", "name", "at"] (spErr2 BS "name" "at" NmAt)
structure Bt3 (mg : Str → Option Value) (t1 t2 : Tok) : Prop extends Bt2 mg where
  c_MOST_STEPS : mg "MOST_STEPS" = some (.int 80 t1)
  c_MOST_TURNS : mg "MOST_TURNS" = some (.int 4 t2)
theorem putF_le {f : Str} {v : V} : ∀ {fs : List (Str × V)} {n : Nat}, fs.length ≤ n → (putF f v fs).length ≤ n + 1
  | [], _, _ => Nat.succ_le_succ (Nat.zero_le _)
  | (g, x) :: r, n + 1, h => by
    unfold putF
    have h' : r.length ≤ n := Nat.le_of_succ_le_succ h
    split
    · show r.length + 1 ≤ _; omega
    · show (putF f v r).length + 1 ≤ _
      have := putF_le (f := f) (v := v) h'
      omega

/-- the fields of an operation -/
def opFs (nv tv ov : V) (l : Addr) : List (Str × V) := [("name", nv), ("turns", tv), ("otherwise", ov), ("_steps", .ref l)]
/-- the first step that is none -/
def FirstBad (ds : List PyData) (i : Nat) : Prop := (∃ d, ds[i]? = some d ∧ stepAny d = false) ∧ ∀ (j : Nat) (d : PyData), j < i → ds[j]? = some d → stepAny d = true
def AllSt (ds : List PyData) : Prop := ∀ (j : Nat) (d : PyData), ds[j]? = some d → stepAny d = true
def spOpA (K : PySem.W.Frag) (OP BS BN BM : Addr) : Sp := fun vs H Q E => ∃ (o dx st : Addr) (nv tv ov : V) (dn dt dw : PyData) (xs : List V) (ds : List PyData) (ls : List Lk), vs = [.ref o, nv, .ref st, tv, ov] ∧ H o = some (.ins OP dx []) ∧ Dq H nv dn ∧ szD dn = true ∧ SqL K H st xs ∧ o ≠ st ∧ DqAll H xs ds ∧ (∀ d ∈ ds, szD d = true ∧ okA d) ∧ ds.length ≤ 1000 ∧ Dq H tv dt ∧ szD dt = true ∧ Dq H ov dw ∧ szD dw = true ∧ (AllSt ds → Steps H xs ls) ∧
  (nameD dn = false → ∀ (e : Addr) (H' : Hp), H e = none → H' e = some (.xd [("name", nv)]) → Kp [] H H' → E (.ref BN) (some e) H') ∧
  (∀ k : Nat, nameD dn = true → ((xs = [] ∧ k = 0) ∨ (80 < xs.length ∧ k = 80) ∨ (1 ≤ xs.length ∧ xs.length ≤ 80 ∧ FirstBad ds k) ∨ (1 ≤ xs.length ∧ xs.length ≤ 80 ∧ AllSt ds ∧ IsF ls (some k))) → ∀ (e : Addr) (H' : Hp), H e = none → H' e = some (.xd [("at", .int (k : Nat)), ("name", nv)]) → Kp [] H H' → E (.ref BS) (some e) H') ∧
  (∀ u : V, nameD dn = true → 1 ≤ xs.length → xs.length ≤ 80 → AllSt ds → IsF ls none → ((belowD 5 dt = false ∧ u = tv) ∨ (belowD 5 dt = true ∧ belowD 10 dw = false ∧ u = ov)) → ∀ (e : Addr) (H' : Hp), H e = none → H' e = some (.xd [("number", u)]) → Kp [] H H' → E (.ref BM) (some e) H') ∧
  (nameD dn = true → 1 ≤ xs.length → xs.length ≤ 80 → AllSt ds → IsF ls none → belowD 5 dt = true → belowD 10 dw = true → ∀ (l : Addr) (H' : Hp), H l = none → H' o = some (.ins OP dx (opFs nv tv ov l)) → H' l = some (.lst xs) → Kp [o] H H' → Q .non H')
section
variable {P : Program} {w : World} {K : PySem.W.Frag} {mg : Str → Option Value} {base : Heap} {T_FORMS T_SIGNS : Addr} {es : Array DictEntry} {n : Nat} {tL : Tok}
theorem oka_Operation_init {f : Addr} {fd : FuncData} (F : Fun K "__init__" "Operation.__init__" s_Operation_init f fd) {t1 t2 : Tok} (T : Bt3 mg t1 t2) {OP BS fB : Addr} {fdB : FuncData} (O : OpC K mg OP) (E_BadStep : BsC P w K mg base BS fB fdB)
    {BN BM fN fM : Addr} {fdN fdM : FuncData} (E_BadName : Er1 P w K mg base "BadName" "name" BN fN fdN ["self", "name"] fun _ => True) (E_BadNumber : Er1 P w K mg base "BadNumber" "number" BM fM fdM ["self", "number"] fun _ => True)
    {fa : Addr} {fda : FuncData} (D_is_name : Df K mg "is_name" s_is_name ["value"] fa fda) (G_is_name : FnOk P w K mg base CX0 1 fa fda ["value"] (spD (fun _ => True) nameD)) {fc : Addr} {fdc : FuncData} (D_is_step : Df K mg "is_step" s_is_step ["step"] fc fdc) (G_is_step : FnOk P w K mg base CX0 6 fc fdc ["step"] spStepA)
    {fe : Addr} {fde : FuncData} (D_lock_fault : Df K mg "lock_fault" s_lock_fault ["steps"] fe fde) (G_lock_fault : FnOk P w K mg base CX0 1 fe fde ["steps"] (spFault K)) {fg : Addr} {fdg : FuncData} (D_is_below : Df K mg "is_below" s_is_below ["value", "bound"] fg fdg) (G_is_below : FnOk P w K mg base CX0 1 fg fdg ["value", "bound"] spBelow)
    {fh : Addr} {fdh : FuncData} (D_is_number : Df K mg "is_number" s_is_number ["value"] fh fdh) (G_is_number : FnOk P w K mg base CX0 2 fh fdh ["value"] (spD (fun _ => True) (belowD 10))) :
    FnOk P w K mg base (L2N.CX P w) 7 f fd ["self", "name", "steps", "turns", "otherwise"] (spOpA K OP BS BN BM) := by
  refine okXN F sc_Operation_init (fun vs H Q E h => ?_) (fun cdv A outer s H vs Q E hr h => ?_)
  · obtain ⟨_, _, _, _, _, _, _, _, _, _, _, _, rfl, _⟩ := h
    rfl
  · obtain ⟨o, dx, st, nv, tv, ov, dn, dt, dw, xs, ds, ls, rfl, ho, hn, sn, hS, hos, hds, hok, l1000, ht, sT, hw, sw, hst, qN, qS, qM, qG⟩ := h
    have hu := hu_of hr
    refine ⟨_, (pss_cons (ps_if (pt_not (pt_val (pe_call G_is_name (hr.mono (by decide)) rfl D_is_name.g D_is_name.F.kp D_is_name.b .nil pass0 (pa_cons (pv 1) pa_nil)))) (pss_one (L2N.ps_raise rfl (L2N.takes_of rfl rfl rfl rfl) (pmk_oexN E_BadName.ox E_BadName.ic E_BadName.ti E_BadName.G (hr.mono (by decide)) E_BadName.b .nil passL rfl E_BadName.k (pa_cons (pv 1) pa_nil)))) pss_nil)
      (pss_cons (ps_if (pt_not (pt_truth (pv 2) (by intro _; rfl))) (pss_one (L2N.ps_raise rfl (L2N.takes_of rfl rfl rfl rfl) (pmk_oexN E_BadStep.ox E_BadStep.ic E_BadStep.ti E_BadStep.G (hr.mono (by decide)) E_BadStep.b .nil passL rfl E_BadStep.k (pa_cons (pv 1) (pa_cons pe_int pa_nil))))) pss_nil)
      (pss_cons (ps_if (pt_cmpR op_gt (pe_callB (id := "len") (r := Evl.rLenS K) call_len_seq (by rfl) T.b_len PySem.boot_len (pa_cons (pv 2) pa_nil)) (pe_glob (v := .int 80) rfl T.c_MOST_STEPS ⟨_, rfl⟩) (nomark _)) (pss_one (L2N.ps_raise rfl (L2N.takes_of rfl rfl rfl rfl) (pmk_oexN E_BadStep.ox E_BadStep.ic E_BadStep.ti E_BadStep.G (hr.mono (by decide)) E_BadStep.b .nil passL rfl E_BadStep.k (pa_cons (pv 1) (pa_cons (pe_glob (v := .int 80) rfl T.c_MOST_STEPS ⟨_, rfl⟩) pa_nil))))) pss_nil)
      (pss_cons (ps_for (passes_of rfl) rfl (pi_enum rfl T.b_enumerate (pa_cons (pv 2) pa_nil)) (pg_tup (n := 2) (by rfl) (pgs_cons (pg_name (i := 5) sc_Operation_init.nd rfl (Or.inl rfl)) (pgs_cons (pg_name (i := 6) sc_Operation_init.nd rfl (Or.inl rfl)) pgs_nil))) (pss_one (ps_if (pt_not (pt_val (pe_call G_is_step (hr.mono (by decide)) rfl D_is_step.g D_is_step.F.kp D_is_step.b .nil pass0 (pa_cons (pv 6) pa_nil)))) (pss_one (L2N.ps_raise rfl (L2N.takes_of rfl rfl rfl rfl) (pmk_oexN E_BadStep.ox E_BadStep.ic E_BadStep.ti E_BadStep.G (hr.mono (by decide)) E_BadStep.b .nil passL rfl E_BadStep.k (pa_cons (pv 1) (pa_cons (pv 5) pa_nil))))) pss_nil)))
      (pss_cons (ps_set (i := 7) sc_Operation_init.nd rfl (Or.inl rfl) (pe_call G_lock_fault (hr.mono (by decide)) rfl D_lock_fault.g D_lock_fault.F.kp D_lock_fault.b .nil pass0 (pa_cons (pv 2) pa_nil)))
      (pss_cons (ps_if (pt_cmpR op_notN (pv 7) pe_non (nomark _)) (pss_one (L2N.ps_raise rfl (L2N.takes_of rfl rfl rfl rfl) (pmk_oexN E_BadStep.ox E_BadStep.ic E_BadStep.ti E_BadStep.G (hr.mono (by decide)) E_BadStep.b .nil passL rfl E_BadStep.k (pa_cons (pv 1) (pa_cons (pv 7) pa_nil))))) pss_nil)
      (pss_cons (ps_if (pt_not (pt_val (pe_call G_is_below (hr.mono (by decide)) rfl D_is_below.g D_is_below.F.kp D_is_below.b .nil pass0 (pa_cons (pv 3) (pa_cons (pe_op op_add (pe_glob (v := .int 4) rfl T.c_MOST_TURNS ⟨_, rfl⟩) pe_int) pa_nil))))) (pss_one (L2N.ps_raise rfl (L2N.takes_of rfl rfl rfl rfl) (pmk_oexN E_BadNumber.ox E_BadNumber.ic E_BadNumber.ti E_BadNumber.G (hr.mono (by decide)) E_BadNumber.b .nil passL rfl E_BadNumber.k (pa_cons (pv 3) pa_nil)))) pss_nil)
      (pss_cons (ps_if (pt_not (pt_val (pe_call G_is_number (hr.mono (by decide)) rfl D_is_number.g D_is_number.F.kp D_is_number.b .nil pass0 (pa_cons (pv 4) pa_nil)))) (pss_one (L2N.ps_raise rfl (L2N.takes_of rfl rfl rfl rfl) (pmk_oexN E_BadNumber.ox E_BadNumber.ic E_BadNumber.ti E_BadNumber.G (hr.mono (by decide)) E_BadNumber.b .nil passL rfl E_BadNumber.k (pa_cons (pv 4) pa_nil)))) pss_nil)
      (pss_cons (ps_fld (pv 0) (pv 1) rfl)
      (pss_cons (ps_fld (pv 0) (pv 3) rfl)
      (pss_cons (ps_fld (pv 0) (pv 4) rfl)
      (pss_one (ps_fld (pv 0) (pe_callTy call_list_of (by rfl) T.b_list (by decide +kernel) (pa_cons (pv 2) pa_nil)) rfl))))))))))))), ?_⟩
    have ll := hds.len
    try simp (maxSteps := 1000000) only [tSeq, tIfS, tTest, tOp, tUn, tCB, tCons, tNil, tVar, tC, rI0, rI, rU, rEq, rNe, tRet, tRetN, tAsg, gName, gSub, tBM, tBM0, tNext, tB, tNot, tAnd, tOr, tIf, tCall, tDrop, tBreak, tCont, L2.start, tDGet, sDPut, tTup, tLst, tDNewK, tRevL, rCat, rAppend, rPop, rSetL, tAndV, tOrV, tNotV, tSl, tPart, tNoPart, tM1, gTup, gCons, gNil, cxK, cxnK, List.map_cons, List.map_nil, List.length_cons, List.length_nil, List.replicate, List.cons_append, List.nil_append, List.append_nil, List.set_cons_zero, List.set_cons_succ, List.getElem?_cons_zero, List.getElem?_cons_succ, Option.some.injEq, V.ref.injEq, V.int.injEq, V.str.injEq, V.bl.injEq, V.ty.injEq, exists_eq_left', exists_eq_left, exists_and_left, List.cons.injEq, and_true, true_and, sc_ii, sc_ss, sc_bb, sc_ni, sc_in, sc_is, sc_si, sc_nn, decide_true, decide_false, reduceCtorEq, Bool.false_eq_true, if_true, if_false, ite_true, ite_false, exists_const, eq_self, false_and, and_false, or_false, false_or, exists_false, Evl.rLenS, rSum, wipe, tYes, exists_eq, exists_eq', rIxL, rIxT, rIxS, exists_and_right, gt_iff_lt, not_true_eq_false, not_false_eq_true, Bool.not_true, Bool.not_false, decide_eq_true_eq, Nat.reduceSub, Nat.reduceAdd, List.append_assoc, tChain, tDIn, tDNotIn, sDDel, tAug, ipI]
    refine ⟨nv, dn, rfl, hn, sn, True.intro, fun H1 k1 => ⟨nameD dn, rfl, ?_⟩⟩
    by_cases nm : nameD dn = true
    case neg =>
      rw [Bool.not_eq_true] at nm
      rw [nm, if_pos (by decide)]
      exact ⟨nv, rfl, err1_made (P := fun _ => True) trivial fun e H' ne he k => qN nm e H' (k1.free0 ne) he (k1.trans k)⟩
    rw [nm, if_neg (by decide)]
    obtain ⟨name, rfl, nl⟩ : ∃ z, nv = .str z ∧ z.length ≤ 1000 := by
      cases hn with
      | str z => exact ⟨z, rfl, of_decide_eq_true sn⟩
      | _ => cases nm
    have S1 : SqL K H1 st xs := k1.ls not0 hS
    refine ⟨!xs.isEmpty, .inl ⟨xs, S1, rfl⟩, ?_⟩
    cases hx : xs.isEmpty with
    | true =>
      rw [if_pos (by decide)]
      have ex : xs = [] := List.isEmpty_iff.mp hx
      refine ⟨.str name, rfl, err2_made (P := NmAt) ⟨name, 0, rfl, nl, rfl, by decide, by decide⟩ fun e H' ne he k => ?_⟩
      exact qS 0 nm (.inl ⟨ex, rfl⟩) e H' (k1.free0 ne) he (k1.trans k)
    | false =>
      rw [if_neg (by decide)]
      have x1 : 1 ≤ xs.length := by
        cases xs with
        | nil => cases hx
        | cons a r => simp
      refine ⟨xs, .inl S1, ?_⟩
      by_cases x80 : xs.length ≤ 80
      case neg =>
        rw [if_pos (by omega)]
        refine ⟨.str name, rfl, err2_made (P := NmAt) ⟨name, 80, rfl, nl, rfl, by decide, by decide⟩ fun e H' ne he k => ?_⟩
        exact qS 80 nm (.inr (.inl ⟨by omega, rfl⟩)) e H' (k1.free0 ne) he (k1.trans k)
      rw [if_neg (by omega)]
      refine ⟨.ref st, rfl, st, xs, rfl, S1, ?_⟩
      refine for_it (walk_enum (K := K) (a := st) (xs := xs)) (fun i σ H' => ∃ c1 c2, σ = [some (.ref o), some (.str name), some (.ref st), some tv, some ov, c1, c2, none] ∧ Kp [] H H' ∧ ∀ (j : Nat) (d : PyData), j < i → ds[j]? = some d → stepAny d = true) ⟨_, _, rfl, k1, fun j d hj => absurd hj (Nat.not_lt_zero j)⟩ (fun i σ H2 _ h => by
        obtain ⟨_, _, _, kp, _⟩ := h
        exact kp.ls not0 hS) ?_ ?_
      · rintro i x σ H2 H3 hi ⟨c1, c2, rfl, kp, good⟩ ⟨t, u, v, rfl, nt, rfl, e1, e2⟩
        cases e1
        obtain ⟨d, ed, hd⟩ := hds.get e2
        have k2 : Kp [] H2 (upd H2 t (.tup [.int (i : Nat), v])) := Kp.new nt
        have k02 := kp.trans k2
        obtain ⟨sz, ok⟩ := hok d (List.mem_of_getElem? ed)
        try simp (maxSteps := 1000000) only [tSeq, tIfS, tTest, tOp, tUn, tCB, tCons, tNil, tVar, tC, rI0, rI, rU, rEq, rNe, tRet, tRetN, tAsg, gName, gSub, tBM, tBM0, tNext, tB, tNot, tAnd, tOr, tIf, tCall, tDrop, tBreak, tCont, L2.start, tDGet, sDPut, tTup, tLst, tDNewK, tRevL, rCat, rAppend, rPop, rSetL, tAndV, tOrV, tNotV, tSl, tPart, tNoPart, tM1, gTup, gCons, gNil, cxK, cxnK, List.map_cons, List.map_nil, List.length_cons, List.length_nil, List.replicate, List.cons_append, List.nil_append, List.append_nil, List.set_cons_zero, List.set_cons_succ, List.getElem?_cons_zero, List.getElem?_cons_succ, Option.some.injEq, V.ref.injEq, V.int.injEq, V.str.injEq, V.bl.injEq, V.ty.injEq, exists_eq_left', exists_eq_left, exists_and_left, List.cons.injEq, and_true, true_and, sc_ii, sc_ss, sc_bb, sc_ni, sc_in, sc_is, sc_si, sc_nn, decide_true, decide_false, reduceCtorEq, Bool.false_eq_true, if_true, if_false, ite_true, ite_false, exists_const, eq_self, false_and, and_false, or_false, false_or, exists_false, Evl.rLenS, rSum, wipe, tYes, exists_eq, exists_eq', rIxL, rIxT, rIxS, exists_and_right, gt_iff_lt, not_true_eq_false, not_false_eq_true, Bool.not_true, Bool.not_false, decide_eq_true_eq, Nat.reduceSub, Nat.reduceAdd, List.append_assoc, tChain, tDIn, tDNotIn, sDDel, tAug, ipI]
        refine ⟨_, sq_t upd_same, rfl, _, _, rfl, _, _, rfl, rfl, ?_⟩
        refine ⟨v, d, rfl, hd.kp k02, sz, ok, fun H4 k4 => ⟨stepAny d, rfl, ?_⟩⟩
        by_cases g : stepAny d = true
        · rw [g, if_neg (by decide)]
          refine ⟨k02.trans k4, fun j e hj ej => ?_⟩
          by_cases z : j = i
          · subst z
            rw [ed] at ej; cases ej
            exact g
          · exact good j e (by omega) ej
        · rw [Bool.not_eq_true] at g
          rw [g, if_pos (by decide)]
          have k04 := k02.trans k4
          refine ⟨.str name, rfl, .int (i : Nat), rfl, err2_made (P := NmAt) ⟨name, i, rfl, nl, rfl, by omega, by omega⟩ fun e H' ne he k => ?_⟩
          exact qS i nm (.inr (.inr (.inl ⟨x1, x80, ⟨d, ed, g⟩, good⟩))) e H' (k04.free0 ne) he (k04.trans k)
      · rintro σ H2 ⟨c1, c2, rfl, kp, good⟩
        have all : AllSt ds := fun j d ej => good j d (by rw [ll]; exact (List.getElem?_eq_some_iff.mp ej).1) ej
        have hst := hst all
        try simp (maxSteps := 1000000) only [tSeq, tIfS, tTest, tOp, tUn, tCB, tCons, tNil, tVar, tC, rI0, rI, rU, rEq, rNe, tRet, tRetN, tAsg, gName, gSub, tBM, tBM0, tNext, tB, tNot, tAnd, tOr, tIf, tCall, tDrop, tBreak, tCont, L2.start, tDGet, sDPut, tTup, tLst, tDNewK, tRevL, rCat, rAppend, rPop, rSetL, tAndV, tOrV, tNotV, tSl, tPart, tNoPart, tM1, gTup, gCons, gNil, cxK, cxnK, List.map_cons, List.map_nil, List.length_cons, List.length_nil, List.replicate, List.cons_append, List.nil_append, List.append_nil, List.set_cons_zero, List.set_cons_succ, List.getElem?_cons_zero, List.getElem?_cons_succ, Option.some.injEq, V.ref.injEq, V.int.injEq, V.str.injEq, V.bl.injEq, V.ty.injEq, exists_eq_left', exists_eq_left, exists_and_left, List.cons.injEq, and_true, true_and, sc_ii, sc_ss, sc_bb, sc_ni, sc_in, sc_is, sc_si, sc_nn, decide_true, decide_false, reduceCtorEq, Bool.false_eq_true, if_true, if_false, ite_true, ite_false, exists_const, eq_self, false_and, and_false, or_false, false_or, exists_false, Evl.rLenS, rSum, wipe, tYes, exists_eq, exists_eq', rIxL, rIxT, rIxS, exists_and_right, gt_iff_lt, not_true_eq_false, not_false_eq_true, Bool.not_true, Bool.not_false, decide_eq_true_eq, Nat.reduceSub, Nat.reduceAdd, List.append_assoc, tChain, tDIn, tDNotIn, sDDel, tAug, ipI]
        refine ⟨st, xs, ls, rfl, kp.ls not0 hS, hst.kp kp, by omega, fun r H3 hF k3 => ?_⟩
        have kp3 := kp.trans k3
        cases r with
        | some k =>
          have hk : k ≤ 1000 := by
            have := hst.1
            cases hF <;> omega
          try simp (maxSteps := 1000000) only [tSeq, tIfS, tTest, tOp, tUn, tCB, tCons, tNil, tVar, tC, rI0, rI, rU, rEq, rNe, tRet, tRetN, tAsg, gName, gSub, tBM, tBM0, tNext, tB, tNot, tAnd, tOr, tIf, tCall, tDrop, tBreak, tCont, L2.start, tDGet, sDPut, tTup, tLst, tDNewK, tRevL, rCat, rAppend, rPop, rSetL, tAndV, tOrV, tNotV, tSl, tPart, tNoPart, tM1, gTup, gCons, gNil, cxK, cxnK, List.map_cons, List.map_nil, List.length_cons, List.length_nil, List.replicate, List.cons_append, List.nil_append, List.append_nil, List.set_cons_zero, List.set_cons_succ, List.getElem?_cons_zero, List.getElem?_cons_succ, Option.some.injEq, V.ref.injEq, V.int.injEq, V.str.injEq, V.bl.injEq, V.ty.injEq, exists_eq_left', exists_eq_left, exists_and_left, List.cons.injEq, and_true, true_and, sc_ii, sc_ss, sc_bb, sc_ni, sc_in, sc_is, sc_si, sc_nn, decide_true, decide_false, reduceCtorEq, Bool.false_eq_true, if_true, if_false, ite_true, ite_false, exists_const, eq_self, false_and, and_false, or_false, false_or, exists_false, Evl.rLenS, rSum, wipe, tYes, exists_eq, exists_eq', rIxL, rIxT, rIxS, exists_and_right, gt_iff_lt, not_true_eq_false, not_false_eq_true, Bool.not_true, Bool.not_false, decide_eq_true_eq, Nat.reduceSub, Nat.reduceAdd, List.append_assoc, tChain, tDIn, tDNotIn, sDDel, tAug, ipI, optV]
          refine ⟨.str name, rfl, .int k, rfl, err2_made (P := NmAt) ⟨name, k, rfl, nl, rfl, by omega, by omega⟩ fun d H4 nd hd k4 => ?_⟩
          exact qS k nm (.inr (.inr (.inr ⟨x1, x80, all, hF⟩))) d H4 (kp3.free0 nd) hd (kp3.trans k4)
        | none =>
          try simp (maxSteps := 1000000) only [tSeq, tIfS, tTest, tOp, tUn, tCB, tCons, tNil, tVar, tC, rI0, rI, rU, rEq, rNe, tRet, tRetN, tAsg, gName, gSub, tBM, tBM0, tNext, tB, tNot, tAnd, tOr, tIf, tCall, tDrop, tBreak, tCont, L2.start, tDGet, sDPut, tTup, tLst, tDNewK, tRevL, rCat, rAppend, rPop, rSetL, tAndV, tOrV, tNotV, tSl, tPart, tNoPart, tM1, gTup, gCons, gNil, cxK, cxnK, List.map_cons, List.map_nil, List.length_cons, List.length_nil, List.replicate, List.cons_append, List.nil_append, List.append_nil, List.set_cons_zero, List.set_cons_succ, List.getElem?_cons_zero, List.getElem?_cons_succ, Option.some.injEq, V.ref.injEq, V.int.injEq, V.str.injEq, V.bl.injEq, V.ty.injEq, exists_eq_left', exists_eq_left, exists_and_left, List.cons.injEq, and_true, true_and, sc_ii, sc_ss, sc_bb, sc_ni, sc_in, sc_is, sc_si, sc_nn, decide_true, decide_false, reduceCtorEq, Bool.false_eq_true, if_true, if_false, ite_true, ite_false, exists_const, eq_self, false_and, and_false, or_false, false_or, exists_false, Evl.rLenS, rSum, wipe, tYes, exists_eq, exists_eq', rIxL, rIxT, rIxS, exists_and_right, gt_iff_lt, not_true_eq_false, not_false_eq_true, Bool.not_true, Bool.not_false, decide_eq_true_eq, Nat.reduceSub, Nat.reduceAdd, List.append_assoc, tChain, tDIn, tDNotIn, sDDel, tAug, ipI, optV]
          refine ⟨tv, dt, 5, rfl, ht.kp kp3, ?_⟩
          refine ⟨belowD 5 dt, rfl, ?_⟩
          by_cases b5 : belowD 5 dt = true
          case neg =>
            rw [Bool.not_eq_true] at b5
            rw [b5, if_pos (by decide)]
            exact ⟨tv, rfl, err1_made (P := fun _ => True) trivial fun e H' ne he k => qM tv nm x1 x80 all hF (.inl ⟨b5, rfl⟩) e H' (kp3.free0 ne) he (kp3.trans k)⟩
          rw [b5, if_neg (by decide)]
          refine ⟨ov, dw, rfl, hw.kp kp3, sw, True.intro, fun H4 k4 => ⟨belowD 10 dw, rfl, ?_⟩⟩
          have kp4 := kp3.trans k4
          by_cases b10 : belowD 10 dw = true
          case neg =>
            rw [Bool.not_eq_true] at b10
            rw [b10, if_pos (by decide)]
            exact ⟨ov, rfl, err1_made (P := fun _ => True) trivial fun e H' ne he k => qM ov nm x1 x80 all hF (.inr ⟨b5, b10, rfl⟩) e H' (kp4.free0 ne) he (kp4.trans k)⟩
          rw [b10, if_neg (by decide)]
          have kO : Kp [o] H H4 := kp4.of0
          have ho4 := kp4 _ _ not0 ho
          refine ⟨.str name, rfl, .ref o, rfl, o, OP, dx, [], rfl, ho4, O.cl, O.n1, by decide, ?_⟩
          refine ⟨tv, rfl, .ref o, rfl, o, OP, dx, _, rfl, upd_same, O.cl, O.n2, Nat.lt_of_le_of_lt (putF_le (Nat.le_refl 0)) (by decide), ?_⟩
          refine ⟨ov, rfl, .ref o, rfl, o, OP, dx, _, rfl, upd_same, O.cl, O.n3, Nat.lt_of_le_of_lt (putF_le (putF_le (Nat.le_refl 0))) (by decide), ?_⟩
          generalize hG : upd (upd (upd H4 o (.ins OP dx (putF "name" (.str name) []))) o (.ins OP dx (putF "turns" tv (putF "name" (.str name) [])))) o (.ins OP dx (putF "otherwise" ov (putF "turns" tv (putF "name" (.str name) [])))) = G
          have hGo : G o = some (.ins OP dx (putF "otherwise" ov (putF "turns" tv (putF "name" (.str name) [])))) := by rw [← hG]; exact upd_same
          have kG : Kp [o] H G := by
            rw [← hG]
            exact ((kO.put List.mem_cons_self).put List.mem_cons_self).put List.mem_cons_self
          have SG : SqL K G st xs := kG.ls (not1 hos.symm) hS
          refine ⟨.ref st, rfl, st, rfl, xs, .inl SG, fun l nl => ?_⟩
          have ol : o ≠ l := ne_of_none hGo nl
          have nlH : H l = none := by
            cases e : H l with
            | none => rfl
            | some u =>
              have z := kG l u (not1 ol.symm) e
              rw [nl] at z; cases z
          refine ⟨.ref o, rfl, o, OP, dx, _, rfl, by rw [upd_ne ol]; exact hGo, O.cl, O.n4, Nat.lt_of_le_of_lt (putF_le (putF_le (putF_le (Nat.le_refl 0)))) (by decide), ?_⟩
          refine qG nm x1 x80 all hF b5 b10 l _ nlH upd_same ?_ ((kG.trans (Kp.new nl).of0).put List.mem_cons_self)
          rw [upd_ne ol.symm]
          exact upd_same
end
end My

set_option Elab.async false
set_option linter.all false
set_option maxRecDepth 100000
set_option maxHeartbeats 4000000
namespace My
open PySem L2 NdefX
abbrev s_law_size : Stmt := top 43
theorem sc_law_size : FnScope ["_law_row_here", "_law_way"] ["_law_row_here"] (defScope s_law_size) := ⟨rfl, rfl, rfl, by decide +kernel, rfl, by decide +kernel, by decide +kernel⟩
abbrev s_law_worth : Stmt := top 29
theorem sc_law_worth : FnScope ["_law_row_here", "_law_names_here", "_law_worth_here", "_law_k", "_law_at"] ["_law_row_here", "_law_names_here"] (defScope s_law_worth) := ⟨rfl, rfl, rfl, by decide +kernel, rfl, by decide +kernel, by decide +kernel⟩
abbrev s_law_guard : Stmt := top 30
theorem sc_law_guard : FnScope ["_law_row_here", "_law_names_here", "_law_sign"] ["_law_row_here", "_law_names_here"] (defScope s_law_guard) := ⟨rfl, rfl, rfl, by decide +kernel, rfl, by decide +kernel, by decide +kernel⟩
abbrev s_law_place : Stmt := top 31
theorem sc_law_place : FnScope ["_law_row_here", "_law_names_here", "_law_name"] ["_law_row_here", "_law_names_here"] (defScope s_law_place) := ⟨rfl, rfl, rfl, by decide +kernel, rfl, by decide +kernel, by decide +kernel⟩
/-! ### data apart from the lists that are written -/
def wo (S : List Addr) (H : Hp) : Hp := fun x => if x ∈ S then none else H x
theorem wo_kp {S : List Addr} {H H' : Hp} (k : Kp S H H') : Kp [] (wo S H) (wo S H') := fun b ob h e => by
  unfold wo at e ⊢
  by_cases z : b ∈ S
  · rw [if_pos z] at e; cases e
  · rw [if_neg z] at e ⊢
    exact k b ob z e
theorem wo_to {S : List Addr} {H : Hp} : Kp [] (wo S H) H := fun b ob h e => by
  unfold wo at e
  by_cases z : b ∈ S
  · rw [if_pos z] at e; cases e
  · rw [if_neg z] at e; exact e
theorem wo_new {S : List Addr} {H : Hp} {p : Addr} {o : HO} (hS : ∀ a ∈ S, ∃ u, H a = some u) (np : H p = none) : wo S (upd H p o) p = some o := by
  unfold wo
  rw [if_neg (fun m => by
    obtain ⟨u, e⟩ := hS p m
    rw [np] at e; cases e), upd_same]
structure BtTp (mg : Str → Option Value) : Prop extends Bt0 mg where
  b_tuple : mg "tuple" = none
structure BtLst (mg : Str → Option Value) : Prop where
  b_list : mg "list" = none
/-- the written lists stand -/
def Std (S : List Addr) (H : Hp) : Prop := ∀ a ∈ S, ∃ xs, H a = some (.lst xs)
section
variable {P : Program} {w : World} {K : PySem.W.Frag} {mg : Str → Option Value} {base : Heap}
theorem ok_Operation_steps {f : Addr} {fd : FuncData} (F : Fun K "steps" "Operation.steps" s_Operation_steps f fd) (T : mg "list" = none) {OP : Addr} (O : OpC K mg OP) : FnOk P w K mg base CX0 1 f fd ["self"] (fun vs H Q _ => ∃ (o dx l : Addr) (nv tv ov : V) (xs : List V), vs = [.ref o] ∧ H o = some (.ins OP dx (opFs nv tv ov l)) ∧ H l = some (.lst xs) ∧ ∀ p, H p = none → Q (.ref p) (upd H p (.lst xs))) := by
  refine F.ok sc_Operation_steps (fun vs H Q E h => ?_) (fun cdv A outer s H vs Q E hr h => ?_)
  · obtain ⟨_, _, _, _, _, _, _, rfl, _⟩ := h
    rfl
  · obtain ⟨o, dx, l, nv, tv, ov, xs, rfl, ho, hl, q⟩ := h
    have T := (⟨T⟩ : BtLst mg)
    refine ⟨_, (pss_one (ps_ret (pe_callTy call_list_of (by rfl) T.b_list (by decide +kernel) (pa_cons (pe_fld (pv 0) rfl) pa_nil)))), ?_⟩
    try simp (maxSteps := 1000000) only [tSeq, tIfS, tTest, tOp, tUn, tCB, tCons, tNil, tVar, tC, rI0, rI, rU, rEq, rNe, tRet, tRetN, tAsg, gName, gSub, tBM, tBM0, tNext, tB, tNot, tAnd, tOr, tIf, tCall, tDrop, tBreak, tCont, L2.start, tDGet, sDPut, tTup, tLst, tDNewK, tRevL, rCat, rAppend, rPop, rSetL, tAndV, tOrV, tNotV, tSl, tPart, tNoPart, tM1, gTup, gCons, gNil, cxK, cxnK, List.map_cons, List.map_nil, List.length_cons, List.length_nil, List.replicate, List.cons_append, List.nil_append, List.append_nil, List.set_cons_zero, List.set_cons_succ, List.getElem?_cons_zero, List.getElem?_cons_succ, Option.some.injEq, V.ref.injEq, V.int.injEq, V.str.injEq, V.bl.injEq, V.ty.injEq, exists_eq_left', exists_eq_left, exists_and_left, List.cons.injEq, and_true, true_and, sc_ii, sc_ss, sc_bb, sc_ni, sc_in, sc_is, sc_si, sc_nn, decide_true, decide_false, reduceCtorEq, Bool.false_eq_true, if_true, if_false, ite_true, ite_false, exists_const, eq_self, false_and, and_false, or_false, false_or, exists_false, Evl.rLenS, rSum, wipe, tYes, exists_eq, exists_eq', rIxL, rIxT, rIxS, exists_and_right, gt_iff_lt, not_true_eq_false, not_false_eq_true, Bool.not_true, Bool.not_false, decide_eq_true_eq, Nat.reduceSub, Nat.reduceAdd, List.append_assoc, tChain, tDIn, tDNotIn, sDDel, tAug, ipI, tFld]
    exact ⟨OP, dx, _, ho, O.cl, O.n4, .ref l, rfl, l, rfl, xs, .inl (sq_l hl), fun p np => q p np⟩
def spSz : Sp := fun vs H Q _ => ∃ (a : Addr), vs = [.ref a] ∧ RowAt H a ∧ ∀ (m : Nat) (H' : Hp), m ≤ 120 → RowAt H' a → Kp [a] H H' → Q (.int (m : Nat)) H'
theorem ok_law_size {f : Addr} {fd : FuncData} (D : Df K mg "_law_size" s_law_size ["_law_row_here"] f fd) {fr : Addr} {fdr : FuncData} (D_law_draw : Df K mg "_law_draw" s_law_draw ["_law_row_here", "_law_many"] fr fdr) (G_law_draw : FnOk P w K mg base CX0 1 fr fdr ["_law_row_here", "_law_many"] spDraw) : FnOk P w K mg base CX0 2 f fd ["_law_row_here"] spSz := by
  refine D.F.ok sc_law_size (fun vs H Q E h => ?_) (fun cdv A outer s H vs Q E hr h => ?_)
  · obtain ⟨_, rfl, _⟩ := h
    rfl
  · obtain ⟨a, rfl, ha, q⟩ := h
    refine ⟨_, (pss_cons (ps_set (i := 1) sc_law_size.nd rfl (Or.inl rfl) (pe_call G_law_draw (hr.mono (by decide)) rfl D_law_draw.g D_law_draw.F.kp D_law_draw.b .nil pass0 (pa_cons (pv 0) (pa_cons pe_int pa_nil))))
      (pss_cons (ps_if (pt_cmpR op_lt (pv 1) pe_int (nomark _)) (pss_one (ps_ret (pe_op op_add pe_int (pe_call G_law_draw (hr.mono (by decide)) rfl D_law_draw.g D_law_draw.F.kp D_law_draw.b .nil pass0 (pa_cons (pv 0) (pa_cons pe_int pa_nil)))))) pss_nil)
      (pss_cons (ps_if (pt_cmpR op_lt (pv 1) pe_int (nomark _)) (pss_one (ps_ret (pe_op op_add pe_int (pe_call G_law_draw (hr.mono (by decide)) rfl D_law_draw.g D_law_draw.F.kp D_law_draw.b .nil pass0 (pa_cons (pv 0) (pa_cons pe_int pa_nil)))))) pss_nil)
      (pss_cons (ps_if (pt_cmpR op_eq (pv 1) pe_int (nomark _)) (pss_one (ps_ret (pe_op op_sub pe_int (pe_call G_law_draw (hr.mono (by decide)) rfl D_law_draw.g D_law_draw.F.kp D_law_draw.b .nil pass0 (pa_cons (pv 0) (pa_cons pe_int pa_nil)))))) pss_nil)
      (pss_cons (ps_if (pt_cmpR op_eq (pv 1) pe_int (nomark _)) (pss_one (ps_ret (pe_op op_add pe_int (pe_op op_mul (pe_call G_law_draw (hr.mono (by decide)) rfl D_law_draw.g D_law_draw.F.kp D_law_draw.b .nil pass0 (pa_cons (pv 0) (pa_cons pe_int pa_nil))) (pe_call G_law_draw (hr.mono (by decide)) rfl D_law_draw.g D_law_draw.F.kp D_law_draw.b .nil pass0 (pa_cons (pv 0) (pa_cons pe_int pa_nil))))))) pss_nil)
      (pss_one (ps_ret pe_int))))))), ?_⟩
    try simp (maxSteps := 1000000) only [tSeq, tIfS, tTest, tOp, tUn, tCB, tCons, tNil, tVar, tC, rI0, rI, rU, rEq, rNe, tRet, tRetN, tAsg, gName, gSub, tBM, tBM0, tNext, tB, tNot, tAnd, tOr, tIf, tCall, tDrop, tBreak, tCont, L2.start, tDGet, sDPut, tTup, tLst, tDNewK, tRevL, rCat, rAppend, rPop, rSetL, tAndV, tOrV, tNotV, tSl, tPart, tNoPart, tM1, gTup, gCons, gNil, cxK, cxnK, List.map_cons, List.map_nil, List.length_cons, List.length_nil, List.replicate, List.cons_append, List.nil_append, List.append_nil, List.set_cons_zero, List.set_cons_succ, List.getElem?_cons_zero, List.getElem?_cons_succ, Option.some.injEq, V.ref.injEq, V.int.injEq, V.str.injEq, V.bl.injEq, V.ty.injEq, exists_eq_left', exists_eq_left, exists_and_left, List.cons.injEq, and_true, true_and, sc_ii, sc_ss, sc_bb, sc_ni, sc_in, sc_is, sc_si, sc_nn, decide_true, decide_false, reduceCtorEq, Bool.false_eq_true, if_true, if_false, ite_true, ite_false, exists_const, eq_self, false_and, and_false, or_false, false_or, exists_false, Evl.rLenS, rSum, wipe, tYes, exists_eq, exists_eq', rIxL, rIxT, rIxS, exists_and_right, gt_iff_lt, not_true_eq_false, not_false_eq_true, Bool.not_true, Bool.not_false, decide_eq_true_eq, Nat.reduceSub, Nat.reduceAdd, List.append_assoc, tChain, tDIn, tDNotIn, sDDel, tAug, ipI]
    refine ⟨a, 12, rfl, ha, by decide, fun r H1 r0 r1 a1 k1 => ?_⟩
    dsimp only
    have fin : ∀ (i : Int) (m : Nat) (H' : Hp), i = (m : Nat) → m ≤ 120 → RowAt H' a → Kp [a] H H' → Q (.int i) H' := fun i m H' e hm ra k => by rw [e]; exact q m H' hm ra k
    refine ⟨r, rfl, ?_⟩
    split
    · exact ⟨a, 8, rfl, a1, by decide, fun y H2 y0 y1 a2 k2 => ⟨y, rfl, fin _ (1 + y.toNat) _ (by omega) (by omega) a2 (k1.trans k2)⟩⟩
    refine ⟨r, rfl, ?_⟩
    split
    · exact ⟨a, 80, rfl, a1, by decide, fun y H2 y0 y1 a2 k2 => ⟨y, rfl, fin _ (1 + y.toNat) _ (by omega) (by omega) a2 (k1.trans k2)⟩⟩
    refine ⟨rfl, ?_⟩
    split
    · exact ⟨a, 2, rfl, a1, by decide, fun y H2 y0 y1 a2 k2 => ⟨y, rfl, fin _ (80 - y.toNat) _ (by omega) (by omega) a2 (k1.trans k2)⟩⟩
    refine ⟨rfl, ?_⟩
    split
    · refine ⟨a, 2, rfl, a1, by decide, fun y H2 y0 y1 a2 k2 => ⟨a, 20, rfl, a2, by decide, fun z H3 z0 z1 a3 k3 => ⟨y, rfl, z, rfl, ?_, ?_⟩⟩⟩
      · exact .inl ⟨by omega, by omega⟩
      · have : y = 0 ∨ y = 1 := by omega
        rcases this with rfl | rfl
        · exact fin _ 81 _ (by omega) (by omega) a3 ((k1.trans k2).trans k3)
        · exact fin _ (81 + z.toNat) _ (by omega) (by omega) a3 ((k1.trans k2).trans k3)
    · exact fin _ 0 _ rfl (by omega) a1 k1
/-! ### what is drawn of data -/
/-- at a the names -/
def NmsAt (H : Hp) (a : Addr) (zs : List Str) : Prop := H a = some (.lst (zs.map V.str)) ∧ 1 ≤ zs.length ∧ zs.length ≤ 11 ∧ ∀ z ∈ zs, nameS z = true
theorem NmsAt.kp {H H' : Hp} {a : Addr} {zs : List Str} (h : NmsAt H a zs) (k : Kp [] H H') : NmsAt H' a zs := ⟨k _ _ not0 h.1, h.2⟩
theorem RowAt.kp0 {H H' : Hp} {a : Addr} (h : RowAt H a) (k : Kp [] H H') : RowAt H' a := by
  obtain ⟨ns, e, r⟩ := h
  exact ⟨ns, k _ _ not0 e, r⟩
/-- an item of a worth -/
def WIt (v : V) (d : PyData) : Prop := (∃ i : Int, v = .int i ∧ d = .int i ∧ 0 ≤ i ∧ i < 10) ∨ ∃ z, v = .str z ∧ d = .str z ∧ nameS z = true
theorem nameS_sz {z : Str} (h : nameS z = true) : szD (.str z) = true := by
  unfold nameS at h
  rw [Bool.and_eq_true, Bool.and_eq_true, decide_eq_true_eq, decide_eq_true_eq] at h
  exact decide_eq_true (by omega)
theorem wit_dq {H : Hp} : ∀ {us : List V} {ds : List PyData}, Rw WIt us ds → DqAll H us ds
  | us, [], r => by rw [r.isNil]; exact .nil
  | us, d :: ds, r => by
    obtain ⟨u, t, rfl, e, r'⟩ := r.ex
    refine .cons ?_ (wit_dq r')
    rcases e with ⟨i, rfl, rfl, _⟩ | ⟨z, rfl, rfl, _⟩
    · exact .int i
    · exact .str z
theorem wit_sz : ∀ {us : List V} {ds : List PyData}, Rw WIt us ds → szAll ds = true
  | us, [], r => rfl
  | us, d :: ds, r => by
    obtain ⟨u, t, rfl, e, r'⟩ := r.ex
    show (szD d && szAll ds) = true
    rw [wit_sz r', Bool.and_true]
    rcases e with ⟨i, rfl, rfl, _⟩ | ⟨z, rfl, rfl, g⟩
    · rfl
    · exact nameS_sz g
theorem wit_nl : ∀ {us : List V} {ds : List PyData}, Rw WIt us ds → noLAll ds = true
  | us, [], r => rfl
  | us, d :: ds, r => by
    obtain ⟨u, t, rfl, e, r'⟩ := r.ex
    show (noL d && noLAll ds) = true
    rw [wit_nl r', Bool.and_true]
    rcases e with ⟨i, rfl, rfl, _⟩ | ⟨z, rfl, rfl, g⟩ <;> rfl
theorem wit_all : ∀ {us : List V} {ds : List PyData}, Rw WIt us ds → (ds.all fun d => nameD d || belowD 10 d) = true
  | us, [], r => rfl
  | us, d :: ds, r => by
    obtain ⟨u, t, rfl, e, r'⟩ := r.ex
    rw [List.all_cons, wit_all r', Bool.and_true]
    rcases e with ⟨i, rfl, rfl, h0, h1⟩ | ⟨z, rfl, rfl, g⟩
    · show (false || (decide (0 ≤ i) && decide (i < 10))) = true
      rw [decide_eq_true h0, decide_eq_true h1]; rfl
    · show (nameS z || false) = true
      rw [g]; rfl
/-- a def that draws data which is so -/
def spDrawn (R : PyData → Prop) : Sp := fun vs H Q _ => ∃ (a nl : Addr) (zs : List Str), vs = [.ref a, .ref nl] ∧ RowAt H a ∧ NmsAt H nl zs ∧ a ≠ nl ∧ ∀ (v : V) (d : PyData) (H' : Hp), Dq (wo [a] H') v d → R d → noL d = true → RowAt H' a → Kp [a] H H' → Q v H'
theorem ok_law_worth {f : Addr} {fd : FuncData} (D : Df K mg "_law_worth" s_law_worth ["_law_row_here", "_law_names_here"] f fd) (T : Bt0 mg) (TT : mg "tuple" = none) {fr : Addr} {fdr : FuncData} (D_law_draw : Df K mg "_law_draw" s_law_draw ["_law_row_here", "_law_many"] fr fdr) (G_law_draw : FnOk P w K mg base CX0 1 fr fdr ["_law_row_here", "_law_many"] spDraw) : FnOk P w K mg base CX0 2 f fd ["_law_row_here", "_law_names_here"] (spDrawn fun d => worthD d = true ∧ szD d = true) := by
  refine D.F.ok sc_law_worth (fun vs H Q E h => ?_) (fun cdv A outer s H vs Q E hr h => ?_)
  · obtain ⟨_, _, _, rfl, _⟩ := h
    rfl
  · obtain ⟨a, nl, zs, rfl, ha, hn, ne, q⟩ := h
    have T := (⟨T, TT⟩ : BtTp mg)
    have ha0 := ha
    have hn0 := hn
    refine ⟨_, (pss_cons (ps_set (i := 2) sc_law_worth.nd rfl (Or.inl rfl) (pe_lst pa_nil))
      (pss_cons (ps_for PassesOwn.never rfl (pi_range1 rfl T.b_range (pa_cons (pe_op op_add pe_int (pe_call G_law_draw (hr.mono (by decide)) rfl D_law_draw.g D_law_draw.F.kp D_law_draw.b .nil pass0 (pa_cons (pv 0) (pa_cons pe_int pa_nil)))) pa_nil)) (pg_name (i := 3) sc_law_worth.nd rfl (Or.inl rfl)) (pss_cons (ps_set (i := 4) sc_law_worth.nd rfl (Or.inl rfl) (pe_call G_law_draw (hr.mono (by decide)) rfl D_law_draw.g D_law_draw.F.kp D_law_draw.b .nil pass0 (pa_cons (pv 0) (pa_cons (pe_op op_add pe_int (pe_callB (id := "len") (r := Evl.rLenS K) call_len_seq (by rfl) T.b_len PySem.boot_len (pa_cons (pv 1) pa_nil))) pa_nil))))
      (pss_one (ps_if (pt_cmpR op_lt (pv 4) pe_int (nomark _)) (pss_one (ps_expr (pe_bm PySem.F.plainAttrs_list PySem.F.slot_list_append PySem.F.type_list_append mt_append (pv 2) (pa_cons (pv 4) pa_nil)))) (pss_one (ps_expr (pe_bm PySem.F.plainAttrs_list PySem.F.slot_list_append PySem.F.type_list_append mt_append (pv 2) (pa_cons (pe_ix (r := rIxL K) ix_list (pv 1) (pe_op op_sub (pv 4) pe_int) (fun _ _ => rfl)) pa_nil))))))))
      (pss_one (ps_ret (pe_callTy call_tuple_of (by rfl) T.b_tuple (by decide +kernel) (pa_cons (pv 2) pa_nil)))))), ?_⟩
    try simp (maxSteps := 1000000) only [tSeq, tIfS, tTest, tOp, tUn, tCB, tCons, tNil, tVar, tC, rI0, rI, rU, rEq, rNe, tRet, tRetN, tAsg, gName, gSub, tBM, tBM0, tNext, tB, tNot, tAnd, tOr, tIf, tCall, tDrop, tBreak, tCont, L2.start, tDGet, sDPut, tTup, tLst, tDNewK, tRevL, rCat, rAppend, rPop, rSetL, tAndV, tOrV, tNotV, tSl, tPart, tNoPart, tM1, gTup, gCons, gNil, cxK, cxnK, List.map_cons, List.map_nil, List.length_cons, List.length_nil, List.replicate, List.cons_append, List.nil_append, List.append_nil, List.set_cons_zero, List.set_cons_succ, List.getElem?_cons_zero, List.getElem?_cons_succ, Option.some.injEq, V.ref.injEq, V.int.injEq, V.str.injEq, V.bl.injEq, V.ty.injEq, exists_eq_left', exists_eq_left, exists_and_left, List.cons.injEq, and_true, true_and, sc_ii, sc_ss, sc_bb, sc_ni, sc_in, sc_is, sc_si, sc_nn, decide_true, decide_false, reduceCtorEq, Bool.false_eq_true, if_true, if_false, ite_true, ite_false, exists_const, eq_self, false_and, and_false, or_false, false_or, exists_false, Evl.rLenS, rSum, wipe, tYes, exists_eq, exists_eq', rIxL, rIxT, rIxS, exists_and_right, gt_iff_lt, not_true_eq_false, not_false_eq_true, Bool.not_true, Bool.not_false, decide_eq_true_eq, Nat.reduceSub, Nat.reduceAdd, List.append_assoc, tChain, tDIn, tDNotIn, sDDel, tAug, ipI]
    refine ⟨Nat.zero_le _, fun p np => ?_⟩
    have kp := (Kp.new np : Kp [] H (upd H p (.lst [])))
    have hp : (upd H p (.lst [])) p = some (.lst []) := upd_same
    have ha := RowAt.kp0 ha kp
    have hn := hn.kp kp
    generalize upd H p (.lst []) = H1 at kp hp ha hn ⊢
    obtain ⟨hnl, n1, n11, hz⟩ := hn
    have anp : a ≠ p := fun z => by
      obtain ⟨ns, e, _⟩ := ha
      obtain ⟨_, e0, _⟩ := ha0
      rw [z, np] at e0; cases e0
    have nlp : nl ≠ p := fun z => by
      have := hn0.1
      rw [z, np] at this; cases this
    refine ⟨.ref a, rfl, a, 3, rfl, ha, by decide, fun y H2 y0 y1 a2 k2 => ⟨1, y, rfl, rfl, 1 + y, rfl, by omega, by omega, ?_⟩⟩
    refine for_range (lo := 0) (n := (1 + y).toNat) (fun j σ H' => ∃ (c3 c4 : Option V) (us : List V) (ds : List PyData), σ = [some (.ref a), some (.ref nl), some (.ref p), c3, c4] ∧ H' p = some (.lst us) ∧ Rw WIt us ds ∧ ds.length = j ∧ RowAt H' a ∧ H' nl = some (.lst (zs.map V.str)) ∧ Kp [a] H H') ⟨_, _, [], [], rfl, k2 _ _ (not1 anp.symm) hp, .nil, rfl, a2, k2 _ _ (not1 ne.symm) hnl, kp.of0.trans k2⟩ ?_ ?_
    · rintro j σ H3 hj ⟨c3, c4, us, ds, rfl, hp3, hr3, hl3, a3, hn3, k3⟩
      try simp (maxSteps := 1000000) only [tSeq, tIfS, tTest, tOp, tUn, tCB, tCons, tNil, tVar, tC, rI0, rI, rU, rEq, rNe, tRet, tRetN, tAsg, gName, gSub, tBM, tBM0, tNext, tB, tNot, tAnd, tOr, tIf, tCall, tDrop, tBreak, tCont, L2.start, tDGet, sDPut, tTup, tLst, tDNewK, tRevL, rCat, rAppend, rPop, rSetL, tAndV, tOrV, tNotV, tSl, tPart, tNoPart, tM1, gTup, gCons, gNil, cxK, cxnK, List.map_cons, List.map_nil, List.length_cons, List.length_nil, List.replicate, List.cons_append, List.nil_append, List.append_nil, List.set_cons_zero, List.set_cons_succ, List.getElem?_cons_zero, List.getElem?_cons_succ, Option.some.injEq, V.ref.injEq, V.int.injEq, V.str.injEq, V.bl.injEq, V.ty.injEq, exists_eq_left', exists_eq_left, exists_and_left, List.cons.injEq, and_true, true_and, sc_ii, sc_ss, sc_bb, sc_ni, sc_in, sc_is, sc_si, sc_nn, decide_true, decide_false, reduceCtorEq, Bool.false_eq_true, if_true, if_false, ite_true, ite_false, exists_const, eq_self, false_and, and_false, or_false, false_or, exists_false, Evl.rLenS, rSum, wipe, tYes, exists_eq, exists_eq', rIxL, rIxT, rIxS, exists_and_right, gt_iff_lt, not_true_eq_false, not_false_eq_true, Bool.not_true, Bool.not_false, decide_eq_true_eq, Nat.reduceSub, Nat.reduceAdd, List.append_assoc, tChain, tDIn, tDNotIn, sDDel, tAug, ipI]
      refine ⟨_, .inl (sq_l hn3), a, 10 + (zs.length : Nat), by rw [List.length_map], a3, by omega, fun r H4 r0 r1 a4 k4 => ?_⟩
      have hp4 := k4 _ _ (not1 anp.symm) hp3
      have hn4 := k4 _ _ (not1 ne.symm) hn3
      have ul : us.length ≤ 3 := by rw [hr3.len]; omega
      have np0 : H p = none := np
      have done : ∀ (v : V) (d : PyData), WIt v d → ∃ ws, upd H4 p (.lst (us ++ [v])) p = some (.lst ws) ∧ ∃ ds2, Rw WIt ws ds2 ∧ ds2.length = j + 1 ∧ RowAt (upd H4 p (.lst (us ++ [v]))) a ∧ upd H4 p (.lst (us ++ [v])) nl = some (.lst (zs.map V.str)) ∧ Kp [a] H (upd H4 p (.lst (us ++ [v]))) := fun v d h => ⟨_, upd_same, ds ++ [d], hr3.snoc h, by rw [List.length_append, hl3]; rfl, by
        obtain ⟨ns, e, r⟩ := a4
        exact ⟨ns, by rw [upd_ne anp]; exact e, r⟩, by rw [upd_ne nlp]; exact hn4, (k3.trans k4).wr np0⟩
      refine ⟨r, rfl, ?_⟩
      split
      · next lt => exact ⟨.inl ⟨rfl, _, sq_l hp4⟩, us, hp4, smallL (by omega), done _ (.int r) (.inl ⟨r, rfl, rfl, r0, lt⟩)⟩
      · next ge =>
        obtain ⟨z, ez⟩ : ∃ z, zs[(r - 10).toNat]? = some z := ⟨_, List.getElem?_eq_getElem (by omega)⟩
        refine ⟨.inl ⟨rfl, _, sq_l hp4⟩, r, rfl, _, sq_l hn4, .str z, ?_, us, hp4, smallL (by omega), done _ (.str z) (.inr ⟨z, rfl, rfl, hz z (List.mem_of_getElem? ez)⟩)⟩
        rw [show r - 10 = (((r - 10).toNat : Nat) : Int) from (Int.toNat_of_nonneg (by omega)).symm]
        exact atI_nat (by rw [List.getElem?_map, ez]; rfl)
    · rintro σ H3 ⟨c3, c4, us, ds, rfl, hp3, hr3, hl3, a3, hn3, k3⟩
      try simp (maxSteps := 1000000) only [tSeq, tIfS, tTest, tOp, tUn, tCB, tCons, tNil, tVar, tC, rI0, rI, rU, rEq, rNe, tRet, tRetN, tAsg, gName, gSub, tBM, tBM0, tNext, tB, tNot, tAnd, tOr, tIf, tCall, tDrop, tBreak, tCont, L2.start, tDGet, sDPut, tTup, tLst, tDNewK, tRevL, rCat, rAppend, rPop, rSetL, tAndV, tOrV, tNotV, tSl, tPart, tNoPart, tM1, gTup, gCons, gNil, cxK, cxnK, List.map_cons, List.map_nil, List.length_cons, List.length_nil, List.replicate, List.cons_append, List.nil_append, List.append_nil, List.set_cons_zero, List.set_cons_succ, List.getElem?_cons_zero, List.getElem?_cons_succ, Option.some.injEq, V.ref.injEq, V.int.injEq, V.str.injEq, V.bl.injEq, V.ty.injEq, exists_eq_left', exists_eq_left, exists_and_left, List.cons.injEq, and_true, true_and, sc_ii, sc_ss, sc_bb, sc_ni, sc_in, sc_is, sc_si, sc_nn, decide_true, decide_false, reduceCtorEq, Bool.false_eq_true, if_true, if_false, ite_true, ite_false, exists_const, eq_self, false_and, and_false, or_false, false_or, exists_false, Evl.rLenS, rSum, wipe, tYes, exists_eq, exists_eq', rIxL, rIxT, rIxS, exists_and_right, gt_iff_lt, not_true_eq_false, not_false_eq_true, Bool.not_true, Bool.not_false, decide_eq_true_eq, Nat.reduceSub, Nat.reduceAdd, List.append_assoc, tChain, tDIn, tDNotIn, sDDel, tAug, ipI]
      refine ⟨us, .inl ⟨sq_l hp3, fun t nt => ?_⟩⟩
      have kt := (Kp.new nt : Kp [] H3 (upd H3 t (.tup us)))
      have st : ∀ b ∈ [a], ∃ u, H3 b = some u := fun b hb => by
        rw [List.mem_singleton.mp hb]
        obtain ⟨ns, e, _⟩ := a3
        exact ⟨_, e⟩
      refine q _ (.tuple ds) _ (.tup (wo_new st nt) (wit_dq hr3)) ⟨?_, wit_sz hr3⟩ (wit_nl hr3) (a3.kp0 kt) (k3.trans kt.of0)
      show (decide (1 ≤ ds.length) && (decide (ds.length ≤ 3) && ds.all fun d => nameD d || belowD 10 d)) = true
      rw [decide_eq_true (by omega), decide_eq_true (by omega), Bool.true_and, Bool.true_and]
      exact wit_all hr3
end
end My

set_option Elab.async false
set_option linter.all false
set_option maxRecDepth 100000
set_option maxHeartbeats 4000000
namespace My
open PySem L2 NdefX
structure BtLn (mg : Str → Option Value) : Prop where
  b_len : mg "len" = none
theorem partD_name (d : PyData) : partD "name" d = nameD d := by
  unfold partD; rw [if_neg (by decide +kernel), if_neg (by decide +kernel), if_neg (by decide +kernel)]
theorem partD_local (d : PyData) : partD "local" d = nameD d := by
  unfold partD; rw [if_neg (by decide +kernel), if_neg (by decide +kernel), if_neg (by decide +kernel)]
theorem partD_place (d : PyData) : partD "place" d = placeD d := by
  unfold partD; rw [if_pos rfl]
theorem partD_worth (d : PyData) : partD "worth" d = worthD d := by
  unfold partD; rw [if_neg (by decide +kernel), if_pos rfl]
theorem partD_guard (d : PyData) : partD "guard" d = (match d with | .none => true | d => guardD d) := by
  unfold partD; rw [if_neg (by decide +kernel), if_neg (by decide +kernel), if_pos rfl] <;> (cases d <;> rfl)
def gdR (d : PyData) : Prop := partD "guard" d = true ∧ sgOk d ∧ szD d = true
def plR (d : PyData) : Prop := placeD d = true ∧ szD d = true
theorem nm_ix {K : PySem.W.Frag} {H : Hp} {nl : Addr} {zs : List Str} {r : Int} (hn : NmsAt H nl zs) (r0 : 0 ≤ r) (r1 : r < (zs.length : Nat)) : ∃ z, atI (zs.map V.str) r = some (.str z) ∧ nameS z = true := by
  obtain ⟨z, ez⟩ : ∃ z, zs[r.toNat]? = some z := ⟨_, List.getElem?_eq_getElem (by omega)⟩
  refine ⟨z, ?_, hn.2.2.2 z (List.mem_of_getElem? ez)⟩
  rw [show r = ((r.toNat : Nat) : Int) from (Int.toNat_of_nonneg r0).symm]
  exact atI_nat (by rw [List.getElem?_map, ez]; rfl)
theorem NmsAt.kpa {H H' : Hp} {a nl : Addr} {zs : List Str} (h : NmsAt H nl zs) (ne : a ≠ nl) (k : Kp [a] H H') : NmsAt H' nl zs := ⟨k _ _ (not1 ne.symm) h.1, h.2⟩
theorem st1 {H : Hp} {a : Addr} (h : RowAt H a) : ∀ b ∈ [a], ∃ u, H b = some u := fun b hb => by
  rw [List.mem_singleton.mp hb]
  obtain ⟨ns, e, _⟩ := h
  exact ⟨_, e⟩
section
variable {P : Program} {w : World} {K : PySem.W.Frag} {mg : Str → Option Value} {base : Heap}
theorem ok_law_guard {f : Addr} {fd : FuncData} (D : Df K mg "_law_guard" s_law_guard ["_law_row_here", "_law_names_here"] f fd) (T : BtLn mg) {fr : Addr} {fdr : FuncData} (D_law_draw : Df K mg "_law_draw" s_law_draw ["_law_row_here", "_law_many"] fr fdr) (G_law_draw : FnOk P w K mg base CX0 1 fr fdr ["_law_row_here", "_law_many"] spDraw)
    {fw : Addr} {fdw : FuncData} (D_law_worth : Df K mg "_law_worth" s_law_worth ["_law_row_here", "_law_names_here"] fw fdw) (G_law_worth : FnOk P w K mg base CX0 2 fw fdw ["_law_row_here", "_law_names_here"] (spDrawn fun d => worthD d = true ∧ szD d = true)) : FnOk P w K mg base CX0 3 f fd ["_law_row_here", "_law_names_here"] (spDrawn gdR) := by
  refine D.F.ok sc_law_guard (fun vs H Q E h => ?_) (fun cdv A outer s H vs Q E hr h => ?_)
  · obtain ⟨_, _, _, rfl, _⟩ := h
    rfl
  · obtain ⟨a, nl, zs, rfl, ha, hn, ne, q⟩ := h
    refine ⟨_, (pss_cons (ps_if (pt_cmpR op_eq (pe_call G_law_draw (hr.mono (by decide)) rfl D_law_draw.g D_law_draw.F.kp D_law_draw.b .nil pass0 (pa_cons (pv 0) (pa_cons pe_int pa_nil))) pe_int (nomark _)) (pss_one (ps_ret pe_non)) pss_nil)
      (pss_cons (ps_set (i := 2) sc_law_guard.nd rfl (Or.inl rfl) (pe_ix ix_str pe_str (pe_call G_law_draw (hr.mono (by decide)) rfl D_law_draw.g D_law_draw.F.kp D_law_draw.b .nil pass0 (pa_cons (pv 0) (pa_cons pe_int pa_nil))) (fun _ _ => rfl)))
      (pss_one (ps_ret (pe_tup (pa_cons (pe_ix (r := rIxL K) ix_list (pv 1) (pe_call G_law_draw (hr.mono (by decide)) rfl D_law_draw.g D_law_draw.F.kp D_law_draw.b .nil pass0 (pa_cons (pv 0) (pa_cons (pe_callB (id := "len") (r := Evl.rLenS K) call_len_seq (by rfl) T.b_len PySem.boot_len (pa_cons (pv 1) pa_nil)) pa_nil))) (fun _ _ => rfl)) (pa_cons (pv 2) (pa_cons (pe_call G_law_worth (hr.mono (by decide)) rfl D_law_worth.g D_law_worth.F.kp D_law_worth.b .nil pass0 (pa_cons (pv 0) (pa_cons (pv 1) pa_nil))) pa_nil)))))))), ?_⟩
    try simp (maxSteps := 1000000) only [tSeq, tIfS, tTest, tOp, tUn, tCB, tCons, tNil, tVar, tC, rI0, rI, rU, rEq, rNe, tRet, tRetN, tAsg, gName, gSub, tBM, tBM0, tNext, tB, tNot, tAnd, tOr, tIf, tCall, tDrop, tBreak, tCont, L2.start, tDGet, sDPut, tTup, tLst, tDNewK, tRevL, rCat, rAppend, rPop, rSetL, tAndV, tOrV, tNotV, tSl, tPart, tNoPart, tM1, gTup, gCons, gNil, cxK, cxnK, List.map_cons, List.map_nil, List.length_cons, List.length_nil, List.replicate, List.cons_append, List.nil_append, List.append_nil, List.set_cons_zero, List.set_cons_succ, List.getElem?_cons_zero, List.getElem?_cons_succ, Option.some.injEq, V.ref.injEq, V.int.injEq, V.str.injEq, V.bl.injEq, V.ty.injEq, exists_eq_left', exists_eq_left, exists_and_left, List.cons.injEq, and_true, true_and, sc_ii, sc_ss, sc_bb, sc_ni, sc_in, sc_is, sc_si, sc_nn, decide_true, decide_false, reduceCtorEq, Bool.false_eq_true, if_true, if_false, ite_true, ite_false, exists_const, eq_self, false_and, and_false, or_false, false_or, exists_false, Evl.rLenS, rSum, wipe, tYes, exists_eq, exists_eq', rIxL, rIxT, rIxS, exists_and_right, gt_iff_lt, not_true_eq_false, not_false_eq_true, Bool.not_true, Bool.not_false, decide_eq_true_eq, Nat.reduceSub, Nat.reduceAdd, List.append_assoc, tChain, tDIn, tDNotIn, sDDel, tAug, ipI]
    refine ⟨a, 2, rfl, ha, by decide, fun r H1 r0 r1 a1 k1 => ?_⟩
    dsimp only
    refine ⟨rfl, ?_⟩
    split
    · exact q _ .none _ .non ⟨partD_guard .none, trivial, rfl⟩ rfl a1 k1
    have hn1 := hn.kpa ne k1
    refine ⟨a, 3, rfl, a1, by decide, fun x H2 x0 x1 a2 k2 => ⟨x, rfl, by rw [sizeLine_eq]; decide, ?_⟩⟩
    obtain ⟨c, ec, sg⟩ : ∃ c, atI (Str.ofString "=!<").cps.toList x = some c ∧ signS ⟨#[c]⟩ = true := by
      have : x = 0 ∨ x = 1 ∨ x = 2 := by omega
      rcases this with rfl | rfl | rfl
      · exact ⟨61, by decide +kernel, by decide +kernel⟩
      · exact ⟨33, by decide +kernel, by decide +kernel⟩
      · exact ⟨60, by decide +kernel, by decide +kernel⟩
    have hn2 := hn1.kpa ne k2
    refine ⟨c, ec, _, .inl (sq_l hn2.1), a, (zs.length : Nat), by rw [List.length_map], a2, by have := hn2.2.1; omega, fun y H3 y0 y1 a3 k3 => ?_⟩
    have hn3 := hn2.kpa ne k3
    obtain ⟨z, ez, gz⟩ := nm_ix (K := K) hn3 y0 y1
    refine ⟨_, y, rfl, sq_l hn3.1, _, ez, a, nl, zs, rfl, a3, hn3, ne, fun v d H4 hv hd nl4 a4 k4 => ⟨by rw [sizeLine_eq]; decide, fun p np => ?_⟩⟩
    have kp := (Kp.new np : Kp [] H4 (upd H4 p (.tup [.str z, .str ⟨#[c]⟩, v])))
    refine q _ (.tuple [.str z, .str ⟨#[c]⟩, d]) _ (.tup (wo_new (st1 a4) np) (.cons (.str z) (.cons (.str _) (.cons (hv.kp (wo_kp kp.of0)) .nil)))) ⟨?_, (fun _ => rfl), ?_⟩ ?_ (a4.kp0 kp) ((((k1.trans k2).trans k3).trans k4).trans kp.of0)
    · rw [partD_guard]
      show (nameS z && (signS ⟨#[c]⟩ && worthD d)) = true
      rw [gz, sg, hd.1]; rfl
    · show (szD (.str z) && (szD (.str ⟨#[c]⟩) && (szD d && true))) = true
      rw [nameS_sz gz, hd.2]
      rfl
    · show (true && (true && (noL d && true))) = true
      rw [nl4]; rfl
theorem ok_law_place {f : Addr} {fd : FuncData} (D : Df K mg "_law_place" s_law_place ["_law_row_here", "_law_names_here"] f fd) (T : BtLn mg) {fr : Addr} {fdr : FuncData} (D_law_draw : Df K mg "_law_draw" s_law_draw ["_law_row_here", "_law_many"] fr fdr) (G_law_draw : FnOk P w K mg base CX0 1 fr fdr ["_law_row_here", "_law_many"] spDraw) : FnOk P w K mg base CX0 2 f fd ["_law_row_here", "_law_names_here"] (spDrawn plR) := by
  refine D.F.ok sc_law_place (fun vs H Q E h => ?_) (fun cdv A outer s H vs Q E hr h => ?_)
  · obtain ⟨_, _, _, rfl, _⟩ := h
    rfl
  · obtain ⟨a, nl, zs, rfl, ha, hn, ne, q⟩ := h
    refine ⟨_, (pss_cons (ps_set (i := 2) sc_law_place.nd rfl (Or.inl rfl) (pe_ix (r := rIxL K) ix_list (pv 1) (pe_call G_law_draw (hr.mono (by decide)) rfl D_law_draw.g D_law_draw.F.kp D_law_draw.b .nil pass0 (pa_cons (pv 0) (pa_cons (pe_callB (id := "len") (r := Evl.rLenS K) call_len_seq (by rfl) T.b_len PySem.boot_len (pa_cons (pv 1) pa_nil)) pa_nil))) (fun _ _ => rfl)))
      (pss_cons (ps_if (pt_cmpR op_eq (pe_call G_law_draw (hr.mono (by decide)) rfl D_law_draw.g D_law_draw.F.kp D_law_draw.b .nil pass0 (pa_cons (pv 0) (pa_cons pe_int pa_nil))) pe_int (nomark _)) (pss_one (ps_ret (pe_tup (pa_cons (pv 2) (pa_cons (pe_ix (r := rIxL K) ix_list (pv 1) (pe_call G_law_draw (hr.mono (by decide)) rfl D_law_draw.g D_law_draw.F.kp D_law_draw.b .nil pass0 (pa_cons (pv 0) (pa_cons (pe_callB (id := "len") (r := Evl.rLenS K) call_len_seq (by rfl) T.b_len PySem.boot_len (pa_cons (pv 1) pa_nil)) pa_nil))) (fun _ _ => rfl)) pa_nil))))) pss_nil)
      (pss_one (ps_ret (pv 2))))), ?_⟩
    try simp (maxSteps := 1000000) only [tSeq, tIfS, tTest, tOp, tUn, tCB, tCons, tNil, tVar, tC, rI0, rI, rU, rEq, rNe, tRet, tRetN, tAsg, gName, gSub, tBM, tBM0, tNext, tB, tNot, tAnd, tOr, tIf, tCall, tDrop, tBreak, tCont, L2.start, tDGet, sDPut, tTup, tLst, tDNewK, tRevL, rCat, rAppend, rPop, rSetL, tAndV, tOrV, tNotV, tSl, tPart, tNoPart, tM1, gTup, gCons, gNil, cxK, cxnK, List.map_cons, List.map_nil, List.length_cons, List.length_nil, List.replicate, List.cons_append, List.nil_append, List.append_nil, List.set_cons_zero, List.set_cons_succ, List.getElem?_cons_zero, List.getElem?_cons_succ, Option.some.injEq, V.ref.injEq, V.int.injEq, V.str.injEq, V.bl.injEq, V.ty.injEq, exists_eq_left', exists_eq_left, exists_and_left, List.cons.injEq, and_true, true_and, sc_ii, sc_ss, sc_bb, sc_ni, sc_in, sc_is, sc_si, sc_nn, decide_true, decide_false, reduceCtorEq, Bool.false_eq_true, if_true, if_false, ite_true, ite_false, exists_const, eq_self, false_and, and_false, or_false, false_or, exists_false, Evl.rLenS, rSum, wipe, tYes, exists_eq, exists_eq', rIxL, rIxT, rIxS, exists_and_right, gt_iff_lt, not_true_eq_false, not_false_eq_true, Bool.not_true, Bool.not_false, decide_eq_true_eq, Nat.reduceSub, Nat.reduceAdd, List.append_assoc, tChain, tDIn, tDNotIn, sDDel, tAug, ipI]
    refine ⟨_, .inl (sq_l hn.1), a, (zs.length : Nat), by rw [List.length_map], ha, by have := hn.2.1; omega, fun y H1 y0 y1 a1 k1 => ?_⟩
    have hn1 := hn.kpa ne k1
    obtain ⟨z, ez, gz⟩ := nm_ix (K := K) hn1 y0 y1
    refine ⟨_, y, rfl, sq_l hn1.1, _, ez, a, 3, rfl, a1, by decide, fun r H2 r0 r1 a2 k2 => ⟨rfl, ?_⟩⟩
    have hn2 := hn1.kpa ne k2
    split
    · refine ⟨_, .inl (sq_l hn2.1), a, (zs.length : Nat), by rw [List.length_map], a2, by have := hn.2.1; omega, fun x H3 x0 x1 a3 k3 => ?_⟩
      have hn3 := hn2.kpa ne k3
      obtain ⟨z2, ez2, gz2⟩ := nm_ix (K := K) hn3 x0 x1
      refine ⟨_, x, rfl, sq_l hn3.1, _, ez2, by rw [sizeLine_eq]; decide, fun p np => ?_⟩
      have kp := (Kp.new np : Kp [] H3 (upd H3 p (.tup [.str z, .str z2])))
      refine q _ (.tuple [.str z, .str z2]) _ (.tup (wo_new (st1 a3) np) (.cons (.str z) (.cons (.str z2) .nil))) ⟨?_, ?_⟩ rfl (a3.kp0 kp) (((k1.trans k2).trans k3).trans kp.of0)
      · show (nameS z && (nameS z2 && true)) = true
        rw [gz, gz2]; rfl
      · show (szD (.str z) && (szD (.str z2) && true)) = true
        rw [nameS_sz gz, nameS_sz gz2]; rfl
    · exact q _ (.str z) _ (.str z) ⟨gz, nameS_sz gz⟩ rfl a2 (k1.trans k2)
end
end My

set_option Elab.async false
set_option linter.all false
set_option maxRecDepth 100000
set_option maxHeartbeats 4000000
namespace My
open PySem L2 NdefX
abbrev s_law_step : Stmt := top 32
theorem sc_law_step : FnScope ["_law_row_here", "_law_names_here", "_law_words", "_law_word_here", "_law_name", "_law_guard_here", "_law_worth_here", "_law_place_here"] ["_law_row_here", "_law_names_here"] (defScope s_law_step) := ⟨rfl, rfl, rfl, by decide +kernel, rfl, by decide +kernel, by decide +kernel⟩
/-- a good step that is neither lock nor free -/
def stR (d : PyData) : Prop := ∃ x rs ds, d = .tuple (.str x :: ds) ∧ (x, rs) ∈ forms ∧ stepD rs ds = true ∧ SgR rs ds ∧ szD d = true ∧ ds.length ≤ 5 ∧ x ≠ "lock" ∧ x ≠ "free"
def words : List Str := ["read", "write", "swap", "cas", "give", "acquire", "release", "fence", "take", "drop"]
theorem words_no : ∀ x ∈ words, szD (.str x) = true ∧ x ≠ "lock" ∧ x ≠ "free" := by decide +kernel
theorem seq_cut {s1 s2 : L2.TS} {D : Ends} {σ : L2.St} {H : Hp} (M : L2.St → Hp → Prop) (h1 : ∀ T : L2.St → Hp → Prop, (∀ σ H, M σ H → T σ H) → s1 { D with nx := T } σ H) (h2 : ∀ σ H, M σ H → s2 D σ H) : tSeq s1 s2 D σ H := h1 _ h2
theorem flat_strs : ∀ zs : List Str, (zs.map V.str).all flatV = true
  | [] => rfl
  | z :: r => by
    rw [List.map_cons, List.all_cons, flat_strs r]; rfl
theorem inV_strs {z : Str} : ∀ {ks : List Str}, inV (.str z) (ks.map V.str) = decide (z ∈ ks)
  | [] => by simp [inV]
  | k :: ks => by
    have ih := inV_strs (z := z) (ks := ks)
    unfold inV at ih ⊢
    rw [List.map_cons, List.any_cons, ih]
    have e : eqV (V.str k) (V.str z) = (k == z) := rfl
    rw [e]
    by_cases h : z = k
    · subst h; simp
    · have : ¬ k = z := fun e => h e.symm
      simp [h, this, beq_eq_false_iff_ne.mpr this]
theorem in_lit {K : PySem.W.Frag} {H : Hp} {p : Addr} {x : Str} {ks : List Str} {Q : VK} (hp : H p = some (.tup (ks.map V.str))) (q : Q (.bl (decide (x ∈ ks))) H) : rIn K false (.str x) (.ref p) H Q := by
  refine ⟨p, _, rfl, .inr (sq_t hp), rfl, flat_strs ks, ?_⟩
  simp only [Bool.false_eq_true, if_false]
  rw [inV_strs]
  exact q
theorem sgr {rs : List Str} {ds : List PyData} {g : PyData} (hr : (Str.ofString "guard") ∉ rs) (hl : ds.length = rs.length) (hg : sgOk g) : SgR (rs ++ [Str.ofString "guard"]) (ds ++ [g]) := fun i d ed er => by
  by_cases h : i < ds.length
  · rw [List.getElem?_append_left (by omega)] at er
    exact absurd (List.mem_of_getElem? er) hr
  · rw [List.getElem?_append_right (by omega)] at ed
    have : i - ds.length = 0 := by
      have := (List.getElem?_eq_some_iff.mp ed).1
      simp at this
      omega
    rw [this] at ed
    cases ed
    exact hg
theorem cas_left : ∀ x ∈ words, x ∉ ([Str.ofString "fence", Str.ofString "take", Str.ofString "drop"] : List Str) → ¬ x = Str.ofString "give" → x ∉ ([Str.ofString "read", Str.ofString "acquire"] : List Str) → x ∉ ([Str.ofString "write", Str.ofString "release"] : List Str) → ¬ x = Str.ofString "swap" → x = Str.ofString "cas" := by decide +kernel
theorem full_nm : nameS "full" = true := by decide +kernel
theorem seq_step {s1 s2 : L2.TS} {D : Ends} {σ : L2.St} {H : Hp} (h : s1 { D with nx := s2 D } σ H) : tSeq s1 s2 D σ H := h
section
variable {P : Program} {w : World} {K : PySem.W.Frag} {mg : Str → Option Value} {base : Heap}
theorem ok_law_step {f : Addr} {fd : FuncData} (D : Df K mg "_law_step" s_law_step ["_law_row_here", "_law_names_here"] f fd) (T : BtLn mg) {fr : Addr} {fdr : FuncData} (D_law_draw : Df K mg "_law_draw" s_law_draw ["_law_row_here", "_law_many"] fr fdr) (G_law_draw : FnOk P w K mg base CX0 1 fr fdr ["_law_row_here", "_law_many"] spDraw)
    {fw : Addr} {fdw : FuncData} (D_law_worth : Df K mg "_law_worth" s_law_worth ["_law_row_here", "_law_names_here"] fw fdw) (G_law_worth : FnOk P w K mg base CX0 2 fw fdw ["_law_row_here", "_law_names_here"] (spDrawn fun d => worthD d = true ∧ szD d = true))
    {fg : Addr} {fdg : FuncData} (D_law_guard : Df K mg "_law_guard" s_law_guard ["_law_row_here", "_law_names_here"] fg fdg) (G_law_guard : FnOk P w K mg base CX0 3 fg fdg ["_law_row_here", "_law_names_here"] (spDrawn gdR)) {fp : Addr} {fdp : FuncData} (D_law_place : Df K mg "_law_place" s_law_place ["_law_row_here", "_law_names_here"] fp fdp) (G_law_place : FnOk P w K mg base CX0 2 fp fdp ["_law_row_here", "_law_names_here"] (spDrawn plR)) : FnOk P w K mg base CX0 4 f fd ["_law_row_here", "_law_names_here"] (spDrawn stR) := by
  refine D.F.ok sc_law_step (fun vs H Q E h => ?_) (fun cdv A outer s H vs Q E hr h => ?_)
  · obtain ⟨_, _, _, rfl, _⟩ := h
    rfl
  · obtain ⟨a, nl, zs, rfl, ha, hn, ne, q⟩ := h
    refine ⟨_, (pss_cons (ps_set (i := 2) sc_law_step.nd rfl (Or.inl rfl) (pe_lst (pa_cons pe_str (pa_cons pe_str (pa_cons pe_str (pa_cons pe_str (pa_cons pe_str (pa_cons pe_str (pa_cons pe_str (pa_cons pe_str (pa_cons pe_str (pa_cons pe_str pa_nil))))))))))))
      (pss_cons (ps_set (i := 3) sc_law_step.nd rfl (Or.inl rfl) (pe_ix (r := rIxL K) ix_list (pv 2) (pe_call G_law_draw (hr.mono (by decide)) rfl D_law_draw.g D_law_draw.F.kp D_law_draw.b .nil pass0 (pa_cons (pv 0) (pa_cons pe_int pa_nil))) (fun _ _ => rfl)))
      (pss_cons (ps_set (i := 4) sc_law_step.nd rfl (Or.inl rfl) (pe_ix (r := rIxL K) ix_list (pv 1) (pe_call G_law_draw (hr.mono (by decide)) rfl D_law_draw.g D_law_draw.F.kp D_law_draw.b .nil pass0 (pa_cons (pv 0) (pa_cons (pe_callB (id := "len") (r := Evl.rLenS K) call_len_seq (by rfl) T.b_len PySem.boot_len (pa_cons (pv 1) pa_nil)) pa_nil))) (fun _ _ => rfl)))
      (pss_cons (ps_set (i := 5) sc_law_step.nd rfl (Or.inl rfl) (pe_call G_law_guard (hr.mono (by decide)) rfl D_law_guard.g D_law_guard.F.kp D_law_guard.b .nil pass0 (pa_cons (pv 0) (pa_cons (pv 1) pa_nil))))
      (pss_cons (ps_if (PW.pt (pw_and (pt_cmpR op_eq (pv 3) pe_str (nomark _)) (pw_and1 (pt_cmpR op_in_seq (pv 4) (pe_tup (pa_cons pe_str (pa_cons pe_str (pa_cons pe_str (pa_cons pe_str (pa_cons pe_str (pa_cons pe_str pa_nil))))))) (by rfl))))) (pss_one (ps_set (i := 4) sc_law_step.nd rfl (Or.inl rfl) pe_str)) pss_nil)
      (pss_cons (ps_if (pt_cmpR op_in_seq (pv 3) (pe_tup (pa_cons pe_str (pa_cons pe_str (pa_cons pe_str pa_nil)))) (by rfl)) (pss_one (ps_ret (pe_tup (pa_cons (pv 3) (pa_cons (pv 4) (pa_cons (pv 5) pa_nil)))))) pss_nil)
      (pss_cons (ps_set (i := 6) sc_law_step.nd rfl (Or.inl rfl) (pe_call G_law_worth (hr.mono (by decide)) rfl D_law_worth.g D_law_worth.F.kp D_law_worth.b .nil pass0 (pa_cons (pv 0) (pa_cons (pv 1) pa_nil))))
      (pss_cons (ps_if (pt_cmpR op_eq (pv 3) pe_str (nomark _)) (pss_one (ps_ret (pe_tup (pa_cons (pv 3) (pa_cons (pv 6) (pa_cons (pv 5) pa_nil)))))) pss_nil)
      (pss_cons (ps_set (i := 7) sc_law_step.nd rfl (Or.inl rfl) (pe_call G_law_place (hr.mono (by decide)) rfl D_law_place.g D_law_place.F.kp D_law_place.b .nil pass0 (pa_cons (pv 0) (pa_cons (pv 1) pa_nil))))
      (pss_cons (ps_if (pt_cmpR op_in_seq (pv 3) (pe_tup (pa_cons pe_str (pa_cons pe_str pa_nil))) (by rfl)) (pss_one (ps_ret (pe_tup (pa_cons (pv 3) (pa_cons (pv 4) (pa_cons (pv 7) (pa_cons (pv 5) pa_nil))))))) pss_nil)
      (pss_cons (ps_if (pt_cmpR op_in_seq (pv 3) (pe_tup (pa_cons pe_str (pa_cons pe_str pa_nil))) (by rfl)) (pss_one (ps_ret (pe_tup (pa_cons (pv 3) (pa_cons (pv 7) (pa_cons (pv 6) (pa_cons (pv 5) pa_nil))))))) pss_nil)
      (pss_cons (ps_if (pt_cmpR op_eq (pv 3) pe_str (nomark _)) (pss_one (ps_ret (pe_tup (pa_cons (pv 3) (pa_cons (pv 4) (pa_cons (pv 7) (pa_cons (pv 6) (pa_cons (pv 5) pa_nil)))))))) pss_nil)
      (pss_one (ps_ret (pe_tup (pa_cons (pv 3) (pa_cons (pv 4) (pa_cons (pv 7) (pa_cons (pe_call G_law_worth (hr.mono (by decide)) rfl D_law_worth.g D_law_worth.F.kp D_law_worth.b .nil pass0 (pa_cons (pv 0) (pa_cons (pv 1) pa_nil))) (pa_cons (pv 6) (pa_cons (pv 5) pa_nil))))))))))))))))))))), ?_⟩
    refine seq_step ?_
    try simp (maxSteps := 1000000) only [tIfS, tTest, tOp, tUn, tCB, tCons, tNil, tVar, tC, rI0, rI, rU, rEq, rNe, tRet, tRetN, tAsg, gName, gSub, tBM, tBM0, tNext, tB, tNot, tAnd, tOr, tIf, tCall, tDrop, tBreak, tCont, L2.start, tDGet, sDPut, tTup, tLst, tDNewK, tRevL, rCat, rAppend, rPop, rSetL, tAndV, tOrV, tNotV, tSl, tPart, tNoPart, tM1, gTup, gCons, gNil, cxK, cxnK, List.map_cons, List.map_nil, List.length_cons, List.length_nil, List.replicate, List.cons_append, List.nil_append, List.append_nil, List.set_cons_zero, List.set_cons_succ, List.getElem?_cons_zero, List.getElem?_cons_succ, Option.some.injEq, V.ref.injEq, V.int.injEq, V.str.injEq, V.bl.injEq, V.ty.injEq, exists_eq_left', exists_eq_left, exists_and_left, List.cons.injEq, and_true, true_and, sc_ii, sc_ss, sc_bb, sc_ni, sc_in, sc_is, sc_si, sc_nn, decide_true, decide_false, reduceCtorEq, Bool.false_eq_true, if_true, if_false, ite_true, ite_false, exists_const, eq_self, false_and, and_false, or_false, false_or, exists_false, Evl.rLenS, rSum, wipe, tYes, exists_eq, exists_eq', rIxL, rIxT, rIxS, exists_and_right, gt_iff_lt, not_true_eq_false, not_false_eq_true, Bool.not_true, Bool.not_false, decide_eq_true_eq, Nat.reduceSub, Nat.reduceAdd, List.append_assoc, tChain, tDIn, tDNotIn, sDDel, tAug, ipI]
    refine ⟨by rw [sizeLine_eq]; decide, fun wl nwl => ?_⟩
    have k0 := (Kp.new nwl : Kp [] H (upd H wl (.lst (words.map V.str))))
    have hwl : (upd H wl (.lst (words.map V.str))) wl = some (.lst (words.map V.str)) := upd_same
    have awl : a ≠ wl := fun z => by
      obtain ⟨ns, e, _⟩ := ha
      rw [z, nwl] at e; cases e
    have ha := ha.kp0 k0
    have hn := hn.kp k0
    generalize eG : upd H wl (.lst (words.map V.str)) = H1 at k0 hwl ha hn
    have fin : ∀ (x : Str) (rs : List Str) (ps : List V) (ds : List PyData) (H' : Hp), x ∈ words → (x, rs) ∈ forms → DqAll (wo [a] H') ps ds → stepD rs ds = true → SgR rs ds → szAll ds = true → noLAll ds = true → ds.length ≤ 5 → RowAt H' a → Kp [a] H H' → ∀ p, H' p = none → Q (.ref p) (upd H' p (.tup (.str x :: ps))) := fun x rs ps ds H' hx hf hd sd sg sz nl lp ra k p np => by
      have kp := (Kp.new np : Kp [] H' (upd H' p (.tup (.str x :: ps))))
      obtain ⟨w1, w2, w3⟩ := words_no x hx
      refine q _ (.tuple (.str x :: ds)) _ (.tup (wo_new (st1 ra) np) (.cons (.str x) (DqAll.kp (wo_kp kp.of0) hd))) ⟨x, rs, ds, rfl, hf, sd, sg, ?_, lp, w2, w3⟩ ?_ (ra.kp0 kp) (k.trans kp.of0)
      · show (szD (.str x) && szAll ds) = true
        rw [w1, sz]; rfl
      · show (true && noLAll ds) = true
        rw [nl]; rfl
    refine seq_step ?_
    try simp (maxSteps := 1000000) only [tIfS, tTest, tOp, tUn, tCB, tCons, tNil, tVar, tC, rI0, rI, rU, rEq, rNe, tRet, tRetN, tAsg, gName, gSub, tBM, tBM0, tNext, tB, tNot, tAnd, tOr, tIf, tCall, tDrop, tBreak, tCont, L2.start, tDGet, sDPut, tTup, tLst, tDNewK, tRevL, rCat, rAppend, rPop, rSetL, tAndV, tOrV, tNotV, tSl, tPart, tNoPart, tM1, gTup, gCons, gNil, cxK, cxnK, List.map_cons, List.map_nil, List.length_cons, List.length_nil, List.replicate, List.cons_append, List.nil_append, List.append_nil, List.set_cons_zero, List.set_cons_succ, List.getElem?_cons_zero, List.getElem?_cons_succ, Option.some.injEq, V.ref.injEq, V.int.injEq, V.str.injEq, V.bl.injEq, V.ty.injEq, exists_eq_left', exists_eq_left, exists_and_left, List.cons.injEq, and_true, true_and, sc_ii, sc_ss, sc_bb, sc_ni, sc_in, sc_is, sc_si, sc_nn, decide_true, decide_false, reduceCtorEq, Bool.false_eq_true, if_true, if_false, ite_true, ite_false, exists_const, eq_self, false_and, and_false, or_false, false_or, exists_false, Evl.rLenS, rSum, wipe, tYes, exists_eq, exists_eq', rIxL, rIxT, rIxS, exists_and_right, gt_iff_lt, not_true_eq_false, not_false_eq_true, Bool.not_true, Bool.not_false, decide_eq_true_eq, Nat.reduceSub, Nat.reduceAdd, List.append_assoc, tChain, tDIn, tDNotIn, sDDel, tAug, ipI]
    rw [show upd H wl (HO.lst [V.str (Str.ofString "read"), V.str (Str.ofString "write"), V.str (Str.ofString "swap"), V.str (Str.ofString "cas"), V.str (Str.ofString "give"), V.str (Str.ofString "acquire"), V.str (Str.ofString "release"), V.str (Str.ofString "fence"), V.str (Str.ofString "take"), V.str (Str.ofString "drop")]) = H1 from eG]
    refine ⟨a, 10, rfl, ha, by decide, fun r H2 r0 r1 a2 k2 => ?_⟩
    have hwl2 := k2 _ _ (not1 awl.symm) hwl
    have hn2 := hn.kpa ne k2
    obtain ⟨x, ex⟩ : ∃ x, words[r.toNat]? = some x := ⟨_, List.getElem?_eq_getElem (by show r.toNat < 10; omega)⟩
    have hx := List.mem_of_getElem? ex
    have k02 : Kp [a] H H2 := k0.of0.trans k2
    refine ⟨_, r, rfl, sq_l hwl2, .str x, by
      rw [show r = ((r.toNat : Nat) : Int) from (Int.toNat_of_nonneg r0).symm]
      exact atI_nat (by rw [List.getElem?_map, ex]; rfl), ?_⟩
    clear eG hwl hwl2 k0 ex awl nwl ha hn
    refine seq_step ?_
    try simp (maxSteps := 1000000) only [tIfS, tTest, tOp, tUn, tCB, tCons, tNil, tVar, tC, rI0, rI, rU, rEq, rNe, tRet, tRetN, tAsg, gName, gSub, tBM, tBM0, tNext, tB, tNot, tAnd, tOr, tIf, tCall, tDrop, tBreak, tCont, L2.start, tDGet, sDPut, tTup, tLst, tDNewK, tRevL, rCat, rAppend, rPop, rSetL, tAndV, tOrV, tNotV, tSl, tPart, tNoPart, tM1, gTup, gCons, gNil, cxK, cxnK, List.map_cons, List.map_nil, List.length_cons, List.length_nil, List.replicate, List.cons_append, List.nil_append, List.append_nil, List.set_cons_zero, List.set_cons_succ, List.getElem?_cons_zero, List.getElem?_cons_succ, Option.some.injEq, V.ref.injEq, V.int.injEq, V.str.injEq, V.bl.injEq, V.ty.injEq, exists_eq_left', exists_eq_left, exists_and_left, List.cons.injEq, and_true, true_and, sc_ii, sc_ss, sc_bb, sc_ni, sc_in, sc_is, sc_si, sc_nn, decide_true, decide_false, reduceCtorEq, Bool.false_eq_true, if_true, if_false, ite_true, ite_false, exists_const, eq_self, false_and, and_false, or_false, false_or, exists_false, Evl.rLenS, rSum, wipe, tYes, exists_eq, exists_eq', rIxL, rIxT, rIxS, exists_and_right, gt_iff_lt, not_true_eq_false, not_false_eq_true, Bool.not_true, Bool.not_false, decide_eq_true_eq, Nat.reduceSub, Nat.reduceAdd, List.append_assoc, tChain, tDIn, tDNotIn, sDDel, tAug, ipI]
    refine ⟨_, .inl (sq_l hn2.1), a, (zs.length : Nat), by rw [List.length_map], a2, by have := hn2.2.1; omega, fun y H3 y0 y1 a3 k3 => ?_⟩
    have hn3 := hn2.kpa ne k3
    obtain ⟨z, ez, gz⟩ := nm_ix (K := K) hn3 y0 y1
    refine ⟨_, y, rfl, sq_l hn3.1, _, ez, ?_⟩
    refine seq_step ?_
    try simp (maxSteps := 1000000) only [tIfS, tTest, tOp, tUn, tCB, tCons, tNil, tVar, tC, rI0, rI, rU, rEq, rNe, tRet, tRetN, tAsg, gName, gSub, tBM, tBM0, tNext, tB, tNot, tAnd, tOr, tIf, tCall, tDrop, tBreak, tCont, L2.start, tDGet, sDPut, tTup, tLst, tDNewK, tRevL, rCat, rAppend, rPop, rSetL, tAndV, tOrV, tNotV, tSl, tPart, tNoPart, tM1, gTup, gCons, gNil, cxK, cxnK, List.map_cons, List.map_nil, List.length_cons, List.length_nil, List.replicate, List.cons_append, List.nil_append, List.append_nil, List.set_cons_zero, List.set_cons_succ, List.getElem?_cons_zero, List.getElem?_cons_succ, Option.some.injEq, V.ref.injEq, V.int.injEq, V.str.injEq, V.bl.injEq, V.ty.injEq, exists_eq_left', exists_eq_left, exists_and_left, List.cons.injEq, and_true, true_and, sc_ii, sc_ss, sc_bb, sc_ni, sc_in, sc_is, sc_si, sc_nn, decide_true, decide_false, reduceCtorEq, Bool.false_eq_true, if_true, if_false, ite_true, ite_false, exists_const, eq_self, false_and, and_false, or_false, false_or, exists_false, Evl.rLenS, rSum, wipe, tYes, exists_eq, exists_eq', rIxL, rIxT, rIxS, exists_and_right, gt_iff_lt, not_true_eq_false, not_false_eq_true, Bool.not_true, Bool.not_false, decide_eq_true_eq, Nat.reduceSub, Nat.reduceAdd, List.append_assoc, tChain, tDIn, tDNotIn, sDDel, tAug, ipI]
    refine ⟨a, nl, zs, rfl, a3, hn3, ne, fun gv gd H4 hgv hgd ngd a4 k4 => ?_⟩
    have hn4 := hn3.kpa ne k4
    have k04 := (k02.trans k3).trans k4
    dsimp only
    refine seq_cut (fun σ H' => ∃ z : Str, nameS z = true ∧ σ = [some (.ref a), some (.ref nl), some (.ref wl), some (.str x), some (.str z), some gv, none, none] ∧ Kp [] H4 H') (fun Tn hT => ?_) ?_
    · try simp (maxSteps := 1000000) only [tSeq, tIfS, tTest, tOp, tUn, tCB, tCons, tNil, tVar, tC, rI0, rI, rU, rEq, rNe, tRet, tRetN, tAsg, gName, gSub, tBM, tBM0, tNext, tB, tNot, tAnd, tOr, tIf, tCall, tDrop, tBreak, tCont, L2.start, tDGet, sDPut, tTup, tLst, tDNewK, tRevL, rCat, rAppend, rPop, rSetL, tAndV, tOrV, tNotV, tSl, tPart, tNoPart, tM1, gTup, gCons, gNil, cxK, cxnK, List.map_cons, List.map_nil, List.length_cons, List.length_nil, List.replicate, List.cons_append, List.nil_append, List.append_nil, List.set_cons_zero, List.set_cons_succ, List.getElem?_cons_zero, List.getElem?_cons_succ, Option.some.injEq, V.ref.injEq, V.int.injEq, V.str.injEq, V.bl.injEq, V.ty.injEq, exists_eq_left', exists_eq_left, exists_and_left, List.cons.injEq, and_true, true_and, sc_ii, sc_ss, sc_bb, sc_ni, sc_in, sc_is, sc_si, sc_nn, decide_true, decide_false, reduceCtorEq, Bool.false_eq_true, if_true, if_false, ite_true, ite_false, exists_const, eq_self, false_and, and_false, or_false, false_or, exists_false, Evl.rLenS, rSum, wipe, tYes, exists_eq, exists_eq', rIxL, rIxT, rIxS, exists_and_right, gt_iff_lt, not_true_eq_false, not_false_eq_true, Bool.not_true, Bool.not_false, decide_eq_true_eq, Nat.reduceSub, Nat.reduceAdd, List.append_assoc, tChain, tDIn, tDNotIn, sDDel, tAug, ipI]
      split
      · refine ⟨by rw [sizeLine_eq]; decide, fun p np => ?_⟩
        have kp := (Kp.new np : Kp [] H4 (upd H4 p (.tup (([Str.ofString "read", Str.ofString "acquire", Str.ofString "write", Str.ofString "release", Str.ofString "both", Str.ofString "return"] : List Str).map V.str))))
        refine in_lit (ks := ["read", "acquire", "write", "release", "both", "return"]) upd_same ⟨_, rfl, ?_⟩
        split
        · exact hT _ _ ⟨"full", full_nm, rfl, kp⟩
        · exact hT _ _ ⟨z, gz, rfl, kp⟩
      · exact hT _ _ ⟨z, gz, rfl, Kp.refl _ _⟩
    rintro σ H5 ⟨z, gz, rfl, k5⟩
    have a5 := a4.kp0 k5
    have hn5 := hn4.kp k5
    have k05 := k04.trans k5.of0
    have hg5 := hgv.kp (wo_kp (k5.of0 : Kp [a] H4 H5))
    clear a4 hn4 k04 hgv k5
    have pN : ∀ r : Str, (r = "local" ∨ r = "name") → partD r (.str z) = true := fun r hr => by
      rcases hr with rfl | rfl
      · rw [partD_local]; exact gz
      · rw [partD_name]; exact gz
    have tup3 : 3 ≤ sizeLine := by rw [sizeLine_eq]; decide
    refine seq_step ?_
    try simp (maxSteps := 1000000) only [tIfS, tTest, tOp, tUn, tCB, tCons, tNil, tVar, tC, rI0, rI, rU, rEq, rNe, tRet, tRetN, tAsg, gName, gSub, tBM, tBM0, tNext, tB, tNot, tAnd, tOr, tIf, tCall, tDrop, tBreak, tCont, L2.start, tDGet, sDPut, tTup, tLst, tDNewK, tRevL, rCat, rAppend, rPop, rSetL, tAndV, tOrV, tNotV, tSl, tPart, tNoPart, tM1, gTup, gCons, gNil, cxK, cxnK, List.map_cons, List.map_nil, List.length_cons, List.length_nil, List.replicate, List.cons_append, List.nil_append, List.append_nil, List.set_cons_zero, List.set_cons_succ, List.getElem?_cons_zero, List.getElem?_cons_succ, Option.some.injEq, V.ref.injEq, V.int.injEq, V.str.injEq, V.bl.injEq, V.ty.injEq, exists_eq_left', exists_eq_left, exists_and_left, List.cons.injEq, and_true, true_and, sc_ii, sc_ss, sc_bb, sc_ni, sc_in, sc_is, sc_si, sc_nn, decide_true, decide_false, reduceCtorEq, Bool.false_eq_true, if_true, if_false, ite_true, ite_false, exists_const, eq_self, false_and, and_false, or_false, false_or, exists_false, Evl.rLenS, rSum, wipe, tYes, exists_eq, exists_eq', rIxL, rIxT, rIxS, exists_and_right, gt_iff_lt, not_true_eq_false, not_false_eq_true, Bool.not_true, Bool.not_false, decide_eq_true_eq, Nat.reduceSub, Nat.reduceAdd, List.append_assoc, tChain, tDIn, tDNotIn, sDDel, tAug, ipI]
    refine ⟨tup3, fun p np => ?_⟩
    have kp := (Kp.new np : Kp [] H5 (upd H5 p (.tup (([Str.ofString "fence", Str.ofString "take", Str.ofString "drop"] : List Str).map V.str))))
    refine in_lit (ks := ["fence", "take", "drop"]) upd_same ⟨_, rfl, ?_⟩
    split
    · next hd =>
      refine ⟨tup3, fun p2 np2 => ?_⟩
      obtain ⟨rs, hf, hr⟩ : ∃ r : Str, (x, ([r, "guard"] : List Str)) ∈ forms ∧ (r = "local" ∨ r = "name") := by
        have hd := of_decide_eq_true hd
        rcases List.mem_cons.mp hd with rfl | hd
        · exact ⟨"name", by decide +kernel, .inr rfl⟩
        rcases List.mem_cons.mp hd with rfl | hd
        · exact ⟨"local", by decide +kernel, .inl rfl⟩
        rw [List.mem_singleton.mp hd]
        exact ⟨"local", by decide +kernel, .inl rfl⟩
      refine fin x [rs, "guard"] [.str z, gv] [.str z, gd] _ hx hf (.cons (.str z) (.cons (hg5.kp (wo_kp (kp.of0 : Kp [a] H5 _))) .nil)) (by simp [stepD, pN rs hr, hgd.1]) (sgr (rs := [rs]) (ds := [.str z]) (by rcases hr with rfl | rfl <;> decide +kernel) rfl hgd.2.1) ?_ ?_ (by simp) (a5.kp0 kp) (k05.trans kp.of0) p2 np2
      · show (szD (.str z) && (szD gd && true)) = true
        rw [nameS_sz gz, hgd.2.2]; rfl
      · show (true && (noL gd && true)) = true
        rw [ngd]; rfl
    · next hd0 =>
      have n3 : x ∉ ([Str.ofString "fence", Str.ofString "take", Str.ofString "drop"] : List Str) := of_decide_eq_false (by rw [Bool.not_eq_true] at hd0; exact hd0)
      clear hd0
      have a6 := a5.kp0 kp
      have hn6 := hn5.kp kp
      have k06 := k05.trans kp.of0
      have hg6 := hg5.kp (wo_kp (kp.of0 : Kp [a] H5 _))
      show tSeq _ _ _ _ (upd H5 p (.tup (([Str.ofString "fence", Str.ofString "take", Str.ofString "drop"] : List Str).map V.str)))
      generalize upd H5 p (.tup (([Str.ofString "fence", Str.ofString "take", Str.ofString "drop"] : List Str).map V.str)) = H6 at a6 hn6 k06 hg6 ⊢
      clear kp np a5 hn5 k05 hg5
      refine seq_step ?_
      try simp (maxSteps := 1000000) only [tIfS, tTest, tOp, tUn, tCB, tCons, tNil, tVar, tC, rI0, rI, rU, rEq, rNe, tRet, tRetN, tAsg, gName, gSub, tBM, tBM0, tNext, tB, tNot, tAnd, tOr, tIf, tCall, tDrop, tBreak, tCont, L2.start, tDGet, sDPut, tTup, tLst, tDNewK, tRevL, rCat, rAppend, rPop, rSetL, tAndV, tOrV, tNotV, tSl, tPart, tNoPart, tM1, gTup, gCons, gNil, cxK, cxnK, List.map_cons, List.map_nil, List.length_cons, List.length_nil, List.replicate, List.cons_append, List.nil_append, List.append_nil, List.set_cons_zero, List.set_cons_succ, List.getElem?_cons_zero, List.getElem?_cons_succ, Option.some.injEq, V.ref.injEq, V.int.injEq, V.str.injEq, V.bl.injEq, V.ty.injEq, exists_eq_left', exists_eq_left, exists_and_left, List.cons.injEq, and_true, true_and, sc_ii, sc_ss, sc_bb, sc_ni, sc_in, sc_is, sc_si, sc_nn, decide_true, decide_false, reduceCtorEq, Bool.false_eq_true, if_true, if_false, ite_true, ite_false, exists_const, eq_self, false_and, and_false, or_false, false_or, exists_false, Evl.rLenS, rSum, wipe, tYes, exists_eq, exists_eq', rIxL, rIxT, rIxS, exists_and_right, gt_iff_lt, not_true_eq_false, not_false_eq_true, Bool.not_true, Bool.not_false, decide_eq_true_eq, Nat.reduceSub, Nat.reduceAdd, List.append_assoc, tChain, tDIn, tDNotIn, sDDel, tAug, ipI]
      refine ⟨a, nl, zs, rfl, a6, hn6, ne, fun wv wd H7 hwv hwd nwd a7 k7 => ?_⟩
      have hn7 := hn6.kpa ne k7
      have k07 := k06.trans k7
      have hg7 := hg6.kp (wo_kp k7)
      dsimp only
      refine seq_step ?_
      try simp (maxSteps := 1000000) only [tIfS, tTest, tOp, tUn, tCB, tCons, tNil, tVar, tC, rI0, rI, rU, rEq, rNe, tRet, tRetN, tAsg, gName, gSub, tBM, tBM0, tNext, tB, tNot, tAnd, tOr, tIf, tCall, tDrop, tBreak, tCont, L2.start, tDGet, sDPut, tTup, tLst, tDNewK, tRevL, rCat, rAppend, rPop, rSetL, tAndV, tOrV, tNotV, tSl, tPart, tNoPart, tM1, gTup, gCons, gNil, cxK, cxnK, List.map_cons, List.map_nil, List.length_cons, List.length_nil, List.replicate, List.cons_append, List.nil_append, List.append_nil, List.set_cons_zero, List.set_cons_succ, List.getElem?_cons_zero, List.getElem?_cons_succ, Option.some.injEq, V.ref.injEq, V.int.injEq, V.str.injEq, V.bl.injEq, V.ty.injEq, exists_eq_left', exists_eq_left, exists_and_left, List.cons.injEq, and_true, true_and, sc_ii, sc_ss, sc_bb, sc_ni, sc_in, sc_is, sc_si, sc_nn, decide_true, decide_false, reduceCtorEq, Bool.false_eq_true, if_true, if_false, ite_true, ite_false, exists_const, eq_self, false_and, and_false, or_false, false_or, exists_false, Evl.rLenS, rSum, wipe, tYes, exists_eq, exists_eq', rIxL, rIxT, rIxS, exists_and_right, gt_iff_lt, not_true_eq_false, not_false_eq_true, Bool.not_true, Bool.not_false, decide_eq_true_eq, Nat.reduceSub, Nat.reduceAdd, List.append_assoc, tChain, tDIn, tDNotIn, sDDel, tAug, ipI]
      split
      · next eg =>
        subst eg
        refine ⟨tup3, fun p2 np2 => ?_⟩
        refine fin _ ["worth", "guard"] [wv, gv] [wd, gd] _ hx (by decide +kernel) (.cons hwv (.cons hg7 .nil)) (by simp [stepD, partD_worth, hwd.1, hgd.1]) (sgr (rs := ["worth"]) (ds := [wd]) (by decide +kernel) rfl hgd.2.1) ?_ ?_ (by simp) a7 k07 p2 np2
        · show (szD wd && (szD gd && true)) = true
          rw [hwd.2, hgd.2.2]; rfl
        · show (noL wd && (noL gd && true)) = true
          rw [nwd, ngd]; rfl
      next ng =>
      refine seq_step ?_
      try simp (maxSteps := 1000000) only [tIfS, tTest, tOp, tUn, tCB, tCons, tNil, tVar, tC, rI0, rI, rU, rEq, rNe, tRet, tRetN, tAsg, gName, gSub, tBM, tBM0, tNext, tB, tNot, tAnd, tOr, tIf, tCall, tDrop, tBreak, tCont, L2.start, tDGet, sDPut, tTup, tLst, tDNewK, tRevL, rCat, rAppend, rPop, rSetL, tAndV, tOrV, tNotV, tSl, tPart, tNoPart, tM1, gTup, gCons, gNil, cxK, cxnK, List.map_cons, List.map_nil, List.length_cons, List.length_nil, List.replicate, List.cons_append, List.nil_append, List.append_nil, List.set_cons_zero, List.set_cons_succ, List.getElem?_cons_zero, List.getElem?_cons_succ, Option.some.injEq, V.ref.injEq, V.int.injEq, V.str.injEq, V.bl.injEq, V.ty.injEq, exists_eq_left', exists_eq_left, exists_and_left, List.cons.injEq, and_true, true_and, sc_ii, sc_ss, sc_bb, sc_ni, sc_in, sc_is, sc_si, sc_nn, decide_true, decide_false, reduceCtorEq, Bool.false_eq_true, if_true, if_false, ite_true, ite_false, exists_const, eq_self, false_and, and_false, or_false, false_or, exists_false, Evl.rLenS, rSum, wipe, tYes, exists_eq, exists_eq', rIxL, rIxT, rIxS, exists_and_right, gt_iff_lt, not_true_eq_false, not_false_eq_true, Bool.not_true, Bool.not_false, decide_eq_true_eq, Nat.reduceSub, Nat.reduceAdd, List.append_assoc, tChain, tDIn, tDNotIn, sDDel, tAug, ipI]
      refine ⟨a, nl, zs, rfl, a7, hn7, ne, fun pv pd H8 hpv hpd npd a8 k8 => ?_⟩
      have hn8 := hn7.kpa ne k8
      have k08 := k07.trans k8
      have hg8 := hg7.kp (wo_kp k8)
      have hw8 := hwv.kp (wo_kp k8)
      dsimp only
      have pP : partD "place" pd = true := by rw [partD_place]; exact hpd.1
      have pW : partD "worth" wd = true := by rw [partD_worth]; exact hwd.1
      refine seq_step ?_
      try simp (maxSteps := 1000000) only [tIfS, tTest, tOp, tUn, tCB, tCons, tNil, tVar, tC, rI0, rI, rU, rEq, rNe, tRet, tRetN, tAsg, gName, gSub, tBM, tBM0, tNext, tB, tNot, tAnd, tOr, tIf, tCall, tDrop, tBreak, tCont, L2.start, tDGet, sDPut, tTup, tLst, tDNewK, tRevL, rCat, rAppend, rPop, rSetL, tAndV, tOrV, tNotV, tSl, tPart, tNoPart, tM1, gTup, gCons, gNil, cxK, cxnK, List.map_cons, List.map_nil, List.length_cons, List.length_nil, List.replicate, List.cons_append, List.nil_append, List.append_nil, List.set_cons_zero, List.set_cons_succ, List.getElem?_cons_zero, List.getElem?_cons_succ, Option.some.injEq, V.ref.injEq, V.int.injEq, V.str.injEq, V.bl.injEq, V.ty.injEq, exists_eq_left', exists_eq_left, exists_and_left, List.cons.injEq, and_true, true_and, sc_ii, sc_ss, sc_bb, sc_ni, sc_in, sc_is, sc_si, sc_nn, decide_true, decide_false, reduceCtorEq, Bool.false_eq_true, if_true, if_false, ite_true, ite_false, exists_const, eq_self, false_and, and_false, or_false, false_or, exists_false, Evl.rLenS, rSum, wipe, tYes, exists_eq, exists_eq', rIxL, rIxT, rIxS, exists_and_right, gt_iff_lt, not_true_eq_false, not_false_eq_true, Bool.not_true, Bool.not_false, decide_eq_true_eq, Nat.reduceSub, Nat.reduceAdd, List.append_assoc, tChain, tDIn, tDNotIn, sDDel, tAug, ipI]
      refine ⟨by rw [sizeLine_eq]; decide, fun p np => ?_⟩
      have kp := (Kp.new np : Kp [] H8 (upd H8 p (.tup (([Str.ofString "read", Str.ofString "acquire"] : List Str).map V.str))))
      refine in_lit (ks := ([Str.ofString "read", Str.ofString "acquire"] : List Str)) upd_same ⟨_, rfl, ?_⟩
      have kS : Kp [a] H8 (upd H8 p (.tup (([Str.ofString "read", Str.ofString "acquire"] : List Str).map V.str))) := kp.of0
      split
      · next hd =>
        have hf : (x, ([Str.ofString "local", Str.ofString "place", Str.ofString "guard"] : List Str)) ∈ forms := by
          have hd := of_decide_eq_true hd
          rcases List.mem_cons.mp hd with rfl | hd
          · decide +kernel
          rw [List.mem_singleton.mp hd]
          decide +kernel
        refine ⟨by rw [sizeLine_eq]; decide, fun p2 np2 => ?_⟩
        refine fin x _ [.str z, pv, gv] [.str z, pd, gd] _ hx hf (.cons (.str z) (.cons (hpv.kp (wo_kp kS)) (.cons (hg8.kp (wo_kp kS)) .nil))) (by simp [stepD, pN "local" (.inl rfl), pP, hgd.1]) (sgr (rs := [Str.ofString "local", Str.ofString "place"]) (ds := [.str z, pd]) (by decide +kernel) rfl hgd.2.1) ?_ ?_ (by simp) (a8.kp0 kp) (k08.trans kS) p2 np2
        · show (szD (.str z) && (szD pd && (szD gd && true))) = true
          rw [nameS_sz gz, hpd.2, hgd.2.2]; rfl
        · show (true && (noL pd && (noL gd && true))) = true
          rw [npd, ngd]; rfl
      next hd1 =>
      have n4 : x ∉ ([Str.ofString "read", Str.ofString "acquire"] : List Str) := of_decide_eq_false (by rw [Bool.not_eq_true] at hd1; exact hd1)
      have a9 := a8.kp0 kp
      have hn9 := hn8.kp kp
      have k09 := k08.trans kS
      have hg9 := hg8.kp (wo_kp kS)
      have hw9 := hw8.kp (wo_kp kS)
      have hp9 := hpv.kp (wo_kp kS)
      show tSeq _ _ _ _ (upd H8 p (.tup (([Str.ofString "read", Str.ofString "acquire"] : List Str).map V.str)))
      generalize upd H8 p (.tup (([Str.ofString "read", Str.ofString "acquire"] : List Str).map V.str)) = H9 at a9 hn9 k09 hg9 hw9 hp9 ⊢
      refine seq_step ?_
      try simp (maxSteps := 1000000) only [tIfS, tTest, tOp, tUn, tCB, tCons, tNil, tVar, tC, rI0, rI, rU, rEq, rNe, tRet, tRetN, tAsg, gName, gSub, tBM, tBM0, tNext, tB, tNot, tAnd, tOr, tIf, tCall, tDrop, tBreak, tCont, L2.start, tDGet, sDPut, tTup, tLst, tDNewK, tRevL, rCat, rAppend, rPop, rSetL, tAndV, tOrV, tNotV, tSl, tPart, tNoPart, tM1, gTup, gCons, gNil, cxK, cxnK, List.map_cons, List.map_nil, List.length_cons, List.length_nil, List.replicate, List.cons_append, List.nil_append, List.append_nil, List.set_cons_zero, List.set_cons_succ, List.getElem?_cons_zero, List.getElem?_cons_succ, Option.some.injEq, V.ref.injEq, V.int.injEq, V.str.injEq, V.bl.injEq, V.ty.injEq, exists_eq_left', exists_eq_left, exists_and_left, List.cons.injEq, and_true, true_and, sc_ii, sc_ss, sc_bb, sc_ni, sc_in, sc_is, sc_si, sc_nn, decide_true, decide_false, reduceCtorEq, Bool.false_eq_true, if_true, if_false, ite_true, ite_false, exists_const, eq_self, false_and, and_false, or_false, false_or, exists_false, Evl.rLenS, rSum, wipe, tYes, exists_eq, exists_eq', rIxL, rIxT, rIxS, exists_and_right, gt_iff_lt, not_true_eq_false, not_false_eq_true, Bool.not_true, Bool.not_false, decide_eq_true_eq, Nat.reduceSub, Nat.reduceAdd, List.append_assoc, tChain, tDIn, tDNotIn, sDDel, tAug, ipI]
      refine ⟨by rw [sizeLine_eq]; decide, fun p3 np3 => ?_⟩
      have kp := (Kp.new np3 : Kp [] H9 (upd H9 p3 (.tup (([Str.ofString "write", Str.ofString "release"] : List Str).map V.str))))
      refine in_lit (ks := ([Str.ofString "write", Str.ofString "release"] : List Str)) upd_same ⟨_, rfl, ?_⟩
      have kS : Kp [a] H9 (upd H9 p3 (.tup (([Str.ofString "write", Str.ofString "release"] : List Str).map V.str))) := kp.of0
      split
      · next hd =>
        have hf : (x, ([Str.ofString "place", Str.ofString "worth", Str.ofString "guard"] : List Str)) ∈ forms := by
          have hd := of_decide_eq_true hd
          rcases List.mem_cons.mp hd with rfl | hd
          · decide +kernel
          rw [List.mem_singleton.mp hd]
          decide +kernel
        refine ⟨by rw [sizeLine_eq]; decide, fun p2 np2 => ?_⟩
        refine fin x _ [pv, wv, gv] [pd, wd, gd] _ hx hf (.cons (hp9.kp (wo_kp kS)) (.cons (hw9.kp (wo_kp kS)) (.cons (hg9.kp (wo_kp kS)) .nil))) (by simp [stepD, pW, pP, hgd.1]) (sgr (rs := [Str.ofString "place", Str.ofString "worth"]) (ds := [pd, wd]) (by decide +kernel) rfl hgd.2.1) ?_ ?_ (by simp) (a9.kp0 kp) (k09.trans kS) p2 np2
        · show (szD pd && (szD wd && (szD gd && true))) = true
          rw [hwd.2, hpd.2, hgd.2.2]; rfl
        · show (noL pd && (noL wd && (noL gd && true))) = true
          rw [npd, nwd, ngd]; rfl
      next hd2 =>
      have n5 : x ∉ ([Str.ofString "write", Str.ofString "release"] : List Str) := of_decide_eq_false (by rw [Bool.not_eq_true] at hd2; exact hd2)
      have a10 := a9.kp0 kp
      have hn10 := hn9.kp kp
      have k010 := k09.trans kS
      have hg10 := hg9.kp (wo_kp kS)
      have hw10 := hw9.kp (wo_kp kS)
      have hp10 := hp9.kp (wo_kp kS)
      show tSeq _ _ _ _ (upd H9 p3 (.tup (([Str.ofString "write", Str.ofString "release"] : List Str).map V.str)))
      generalize upd H9 p3 (.tup (([Str.ofString "write", Str.ofString "release"] : List Str).map V.str)) = H10 at a10 hn10 k010 hg10 hw10 hp10 ⊢
      refine seq_step ?_
      try simp (maxSteps := 1000000) only [tIfS, tTest, tOp, tUn, tCB, tCons, tNil, tVar, tC, rI0, rI, rU, rEq, rNe, tRet, tRetN, tAsg, gName, gSub, tBM, tBM0, tNext, tB, tNot, tAnd, tOr, tIf, tCall, tDrop, tBreak, tCont, L2.start, tDGet, sDPut, tTup, tLst, tDNewK, tRevL, rCat, rAppend, rPop, rSetL, tAndV, tOrV, tNotV, tSl, tPart, tNoPart, tM1, gTup, gCons, gNil, cxK, cxnK, List.map_cons, List.map_nil, List.length_cons, List.length_nil, List.replicate, List.cons_append, List.nil_append, List.append_nil, List.set_cons_zero, List.set_cons_succ, List.getElem?_cons_zero, List.getElem?_cons_succ, Option.some.injEq, V.ref.injEq, V.int.injEq, V.str.injEq, V.bl.injEq, V.ty.injEq, exists_eq_left', exists_eq_left, exists_and_left, List.cons.injEq, and_true, true_and, sc_ii, sc_ss, sc_bb, sc_ni, sc_in, sc_is, sc_si, sc_nn, decide_true, decide_false, reduceCtorEq, Bool.false_eq_true, if_true, if_false, ite_true, ite_false, exists_const, eq_self, false_and, and_false, or_false, false_or, exists_false, Evl.rLenS, rSum, wipe, tYes, exists_eq, exists_eq', rIxL, rIxT, rIxS, exists_and_right, gt_iff_lt, not_true_eq_false, not_false_eq_true, Bool.not_true, Bool.not_false, decide_eq_true_eq, Nat.reduceSub, Nat.reduceAdd, List.append_assoc, tChain, tDIn, tDNotIn, sDDel, tAug, ipI]
      split
      · next es =>
        subst es
        refine ⟨by rw [sizeLine_eq]; decide, fun p2 np2 => ?_⟩
        refine fin _ [Str.ofString "local", Str.ofString "place", Str.ofString "worth", Str.ofString "guard"] [.str z, pv, wv, gv] [.str z, pd, wd, gd] _ hx (by decide +kernel) (.cons (.str z) (.cons hp10 (.cons hw10 (.cons hg10 .nil)))) (by simp [stepD, pN "local" (.inl rfl), pW, pP, hgd.1]) (sgr (rs := [Str.ofString "local", Str.ofString "place", Str.ofString "worth"]) (ds := [.str z, pd, wd]) (by decide +kernel) rfl hgd.2.1) ?_ ?_ (by simp) a10 k010 p2 np2
        · show (szD (.str z) && (szD pd && (szD wd && (szD gd && true)))) = true
          rw [nameS_sz gz, hwd.2, hpd.2, hgd.2.2]; rfl
        · show (true && (noL pd && (noL wd && (noL gd && true)))) = true
          rw [npd, nwd, ngd]; rfl
      next ns =>
      have ec : x = Str.ofString "cas" := cas_left x hx n3 ng n4 n5 ns
      subst ec
      try simp (maxSteps := 1000000) only [tSeq, tIfS, tTest, tOp, tUn, tCB, tCons, tNil, tVar, tC, rI0, rI, rU, rEq, rNe, tRet, tRetN, tAsg, gName, gSub, tBM, tBM0, tNext, tB, tNot, tAnd, tOr, tIf, tCall, tDrop, tBreak, tCont, L2.start, tDGet, sDPut, tTup, tLst, tDNewK, tRevL, rCat, rAppend, rPop, rSetL, tAndV, tOrV, tNotV, tSl, tPart, tNoPart, tM1, gTup, gCons, gNil, cxK, cxnK, List.map_cons, List.map_nil, List.length_cons, List.length_nil, List.replicate, List.cons_append, List.nil_append, List.append_nil, List.set_cons_zero, List.set_cons_succ, List.getElem?_cons_zero, List.getElem?_cons_succ, Option.some.injEq, V.ref.injEq, V.int.injEq, V.str.injEq, V.bl.injEq, V.ty.injEq, exists_eq_left', exists_eq_left, exists_and_left, List.cons.injEq, and_true, true_and, sc_ii, sc_ss, sc_bb, sc_ni, sc_in, sc_is, sc_si, sc_nn, decide_true, decide_false, reduceCtorEq, Bool.false_eq_true, if_true, if_false, ite_true, ite_false, exists_const, eq_self, false_and, and_false, or_false, false_or, exists_false, Evl.rLenS, rSum, wipe, tYes, exists_eq, exists_eq', rIxL, rIxT, rIxS, exists_and_right, gt_iff_lt, not_true_eq_false, not_false_eq_true, Bool.not_true, Bool.not_false, decide_eq_true_eq, Nat.reduceSub, Nat.reduceAdd, List.append_assoc, tChain, tDIn, tDNotIn, sDDel, tAug, ipI]
      refine ⟨a, nl, zs, rfl, a10, hn10, ne, fun uv ud H11 huv hud nud a11 k11 => ⟨by rw [sizeLine_eq]; decide, fun p2 np2 => ?_⟩⟩
      have pU : partD "worth" ud = true := by rw [partD_worth]; exact hud.1
      refine fin _ [Str.ofString "local", Str.ofString "place", Str.ofString "worth", Str.ofString "worth", Str.ofString "guard"] [.str z, pv, uv, wv, gv] [.str z, pd, ud, wd, gd] _ hx (by decide +kernel) (.cons (.str z) (.cons (hp10.kp (wo_kp k11)) (.cons huv (.cons (hw10.kp (wo_kp k11)) (.cons (hg10.kp (wo_kp k11)) .nil))))) (by simp [stepD, pN "local" (.inl rfl), pW, pU, pP, hgd.1]) (sgr (rs := [Str.ofString "local", Str.ofString "place", Str.ofString "worth", Str.ofString "worth"]) (ds := [.str z, pd, ud, wd]) (by decide +kernel) rfl hgd.2.1) ?_ ?_ (by simp) a11 (k010.trans k11) p2 np2
      · show (szD (.str z) && (szD pd && (szD ud && (szD wd && (szD gd && true))))) = true
        rw [nameS_sz gz, hwd.2, hud.2, hpd.2, hgd.2.2]; rfl
      · show (true && (noL pd && (noL ud && (noL wd && (noL gd && true))))) = true
        rw [npd, nwd, nud, ngd]; rfl
end
end My

set_option Elab.async false
set_option linter.all false
set_option maxRecDepth 100000
set_option maxHeartbeats 4000000
namespace My
open PySem L2 NdefX
abbrev s_law_odd_number : Stmt := top 35
theorem sc_law_odd_number : FnScope ["_law_row_here", "_law_most", "_law_way"] ["_law_row_here", "_law_most"] (defScope s_law_odd_number) := ⟨rfl, rfl, rfl, by decide +kernel, rfl, by decide +kernel, by decide +kernel⟩
section
variable {P : Program} {w : World} {K : PySem.W.Frag} {mg : Str → Option Value} {base : Heap}
/-- a number that may not stand: a truth value, below nothing, above most -/
def spOddN : Sp := fun vs H Q _ => ∃ (a : Addr) (m : Int), vs = [.ref a, .int m] ∧ RowAt H a ∧ 0 ≤ m ∧ m ≤ 100 ∧ ∀ (v : V) (d : PyData) (H' : Hp), (∀ G, Dq G v d) → belowD (m + 1) d = false → nameD d = false → scD d = true → szD d = true → noL d = true → isStrD d = false → (∀ i, d = .int i → i.natAbs ≤ 2000) → RowAt H' a → Kp [a] H H' → Q v H'
theorem ok_law_odd_number {f : Addr} {fd : FuncData} (D : Df K mg "_law_odd_number" s_law_odd_number ["_law_row_here", "_law_most"] f fd) {fr : Addr} {fdr : FuncData} (D_law_draw : Df K mg "_law_draw" s_law_draw ["_law_row_here", "_law_many"] fr fdr) (G_law_draw : FnOk P w K mg base CX0 1 fr fdr ["_law_row_here", "_law_many"] spDraw) : FnOk P w K mg base CX0 2 f fd ["_law_row_here", "_law_most"] spOddN := by
  refine D.F.ok sc_law_odd_number (fun vs H Q E h => ?_) (fun cdv A outer s H vs Q E hr h => ?_)
  · obtain ⟨_, _, rfl, _⟩ := h
    rfl
  · obtain ⟨a, m, rfl, ha, m0, m1, q⟩ := h
    refine ⟨_, (pss_cons (ps_set (i := 2) sc_law_odd_number.nd rfl (Or.inl rfl) (pe_call G_law_draw (hr.mono (by decide)) rfl D_law_draw.g D_law_draw.F.kp D_law_draw.b .nil pass0 (pa_cons (pv 0) (pa_cons pe_int pa_nil))))
      (pss_cons (ps_if (pt_cmpR op_eq (pv 2) pe_int (nomark _)) (pss_one (ps_ret pe_bl)) pss_nil)
      (pss_cons (ps_if (pt_cmpR op_eq (pv 2) pe_int (nomark _)) (pss_one (ps_ret pe_bl)) pss_nil)
      (pss_cons (ps_if (pt_cmpR op_eq (pv 2) pe_int (nomark _)) (pss_one (ps_ret (pe_op op_sub (pe_un un_neg pe_int) (pe_call G_law_draw (hr.mono (by decide)) rfl D_law_draw.g D_law_draw.F.kp D_law_draw.b .nil pass0 (pa_cons (pv 0) (pa_cons pe_int pa_nil)))))) pss_nil)
      (pss_one (ps_ret (pe_op op_add (pe_op op_add (pv 1) pe_int) (pe_call G_law_draw (hr.mono (by decide)) rfl D_law_draw.g D_law_draw.F.kp D_law_draw.b .nil pass0 (pa_cons (pv 0) (pa_cons pe_int pa_nil)))))))))), ?_⟩
    try simp (maxSteps := 1000000) only [tSeq, tIfS, tTest, tOp, tUn, tCB, tCons, tNil, tVar, tC, rI0, rI, rU, rEq, rNe, tRet, tRetN, tAsg, gName, gSub, tBM, tBM0, tNext, tB, tNot, tAnd, tOr, tIf, tCall, tDrop, tBreak, tCont, L2.start, tDGet, sDPut, tTup, tLst, tDNewK, tRevL, rCat, rAppend, rPop, rSetL, tAndV, tOrV, tNotV, tSl, tPart, tNoPart, tM1, gTup, gCons, gNil, cxK, cxnK, List.map_cons, List.map_nil, List.length_cons, List.length_nil, List.replicate, List.cons_append, List.nil_append, List.append_nil, List.set_cons_zero, List.set_cons_succ, List.getElem?_cons_zero, List.getElem?_cons_succ, Option.some.injEq, V.ref.injEq, V.int.injEq, V.str.injEq, V.bl.injEq, V.ty.injEq, exists_eq_left', exists_eq_left, exists_and_left, List.cons.injEq, and_true, true_and, sc_ii, sc_ss, sc_bb, sc_ni, sc_in, sc_is, sc_si, sc_nn, decide_true, decide_false, reduceCtorEq, Bool.false_eq_true, if_true, if_false, ite_true, ite_false, exists_const, eq_self, false_and, and_false, or_false, false_or, exists_false, Evl.rLenS, rSum, wipe, tYes, exists_eq, exists_eq', rIxL, rIxT, rIxS, exists_and_right, gt_iff_lt, not_true_eq_false, not_false_eq_true, Bool.not_true, Bool.not_false, decide_eq_true_eq, Nat.reduceSub, Nat.reduceAdd, List.append_assoc, tChain, tDIn, tDNotIn, sDDel, tAug, ipI]
    refine ⟨a, 4, rfl, ha, by decide, fun r H1 r0 r1 a1 k1 => ?_⟩
    dsimp only
    have bel : ∀ i : Int, i < 0 ∨ m + 1 ≤ i → belowD (m + 1) (.int i) = false := fun i h => by
      show (decide (0 ≤ i) && decide (i < m + 1)) = false
      rcases h with h | h
      · rw [decide_eq_false (show ¬ 0 ≤ i by omega)]; rfl
      · rw [decide_eq_false (show ¬ i < m + 1 by omega), Bool.and_false]
    refine ⟨rfl, ?_⟩
    split
    · exact q _ (.bool true) _ (fun _ => .bl true) rfl rfl rfl rfl rfl rfl (fun _ z => nomatch z) a1 k1
    refine ⟨rfl, ?_⟩
    split
    · exact q _ (.bool false) _ (fun _ => .bl false) rfl rfl rfl rfl rfl rfl (fun _ z => nomatch z) a1 k1
    refine ⟨rfl, ?_⟩
    split
    · exact ⟨a, 1000, rfl, a1, by decide, fun x H2 x0 x1 a2 k2 => ⟨x, rfl, q _ (.int (-1 - x)) _ (fun _ => .int _) (bel _ (.inl (by omega))) rfl rfl rfl rfl rfl (fun i z => by cases z; omega) a2 (k1.trans k2)⟩⟩
    · exact ⟨a, 1000, rfl, a1, by decide, fun x H2 x0 x1 a2 k2 => ⟨x, rfl, q _ (.int (m + 1 + x)) _ (fun _ => .int _) (bel _ (.inr (by omega))) rfl rfl rfl rfl rfl (fun i z => by cases z; omega) a2 (k1.trans k2)⟩⟩
end
end My

set_option Elab.async false
set_option linter.all false
set_option maxRecDepth 100000
set_option maxHeartbeats 4000000
namespace My
open PySem L2 NdefX
abbrev s_law_odd_text : Stmt := top 34
theorem sc_law_odd_text : FnScope ["_law_row_here", "_law_signs", "_law_way", "_law_word_here", "_law_at"] ["_law_row_here"] (defScope s_law_odd_text) := ⟨rfl, rfl, rfl, by decide +kernel, rfl, by decide +kernel, by decide +kernel⟩
theorem app_list (x y : Str) : (x ++ y).cps.toList = x.cps.toList ++ y.cps.toList := Array.toList_append
theorem not_long {z : Str} (h : 8 < z.length) : nameS z = false := by
  unfold nameS
  rw [decide_eq_false (show ¬ z.length ≤ 8 by omega)]
  simp
theorem not_low {z : Str} {c : Nat} (h : c ∈ z.cps.toList) (n : lowC c = false) : nameS z = false := by
  unfold nameS
  have : z.cps.toList.all lowC = false := by
    rw [List.all_eq_false]
    exact ⟨c, h, by rw [n]; decide⟩
  rw [this]
  simp
theorem ok_iff {z : Str} : PyData.strOk z = true ↔ ∀ c ∈ z.cps.toList, c < 0x110000 := by
  unfold PyData.strOk
  rw [← Array.all_toList, List.all_eq_true]
  constructor
  · intro h c hc
    simpa using h c hc
  · intro h c hc
    simpa using h c hc
theorem ok_app {x y : Str} (a : PyData.strOk x = true) (b : PyData.strOk y = true) : PyData.strOk (x ++ y) = true := ok_iff.mpr fun c hc => by
  rw [app_list] at hc
  rcases List.mem_append.mp hc with h | h
  · exact ok_iff.mp a c h
  · exact ok_iff.mp b c h
theorem ok_cut {z : Str} {lo hi : Option Int} (a : PyData.strOk z = true) : PyData.strOk (cutS z lo hi) = true := ok_iff.mpr fun c hc => by
  unfold cutS at hc
  exact ok_iff.mp a c (List.mem_of_mem_drop (List.mem_of_mem_take (by simpa using hc)))
theorem cut_le {z : Str} {lo hi : Option Int} : (cutS z lo hi).length ≤ z.length := by
  unfold cutS
  show (List.toArray _).size ≤ _
  rw [List.size_toArray]
  have e : z.cps.toList.length = z.length := Array.length_toList
  rw [List.length_take, List.length_drop]
  omega
theorem odd_all : (Str.ofString "ABCDEFGHIJKLMNOPQRSTUVWXYZ0123456789 !#$&'()*+,-./:;<=>?\x40[]^_{|}~\"\n").cps.toList.all (fun c => !lowC c && decide (c < 0x110000)) = true := by decide +kernel
theorem odd_sign (j : Int) (h0 : 0 ≤ j) (h1 : j < 67) : ∃ c, atI (Str.ofString "ABCDEFGHIJKLMNOPQRSTUVWXYZ0123456789 !#$&'()*+,-./:;<=>?\x40[]^_{|}~\"\n").cps.toList j = some c ∧ (lowC c = false ∧ c < 0x110000) := by
  have hl : (Str.ofString "ABCDEFGHIJKLMNOPQRSTUVWXYZ0123456789 !#$&'()*+,-./:;<=>?\x40[]^_{|}~\"\n").cps.toList.length = 67 := by decide +kernel
  have e := List.getElem?_eq_getElem (l := (Str.ofString "ABCDEFGHIJKLMNOPQRSTUVWXYZ0123456789 !#$&'()*+,-./:;<=>?\x40[]^_{|}~\"\n").cps.toList) (i := j.toNat) (by omega)
  refine ⟨_, by rw [show j = ((j.toNat : Nat) : Int) from (Int.toNat_of_nonneg h0).symm]; exact atI_nat e, ?_⟩
  have := List.all_eq_true.mp odd_all _ (List.mem_of_getElem? e)
  rw [Bool.and_eq_true, decide_eq_true_eq] at this
  exact ⟨by simpa using this.1, this.2⟩
theorem low_ok {z : Str} (h : Low z) : PyData.strOk z = true := ok_iff.mpr fun c hc => by
  have := h c hc
  omega
section
variable {P : Program} {w : World} {K : PySem.W.Frag} {mg : Str → Option Value} {base : Heap}
/-- a text that is no name -/
def spOddT : Sp := fun vs H Q _ => ∃ (a : Addr), vs = [.ref a] ∧ RowAt H a ∧ ∀ (z : Str) (H' : Hp), nameS z = false → z.length ≤ 30 → PyData.strOk z = true → RowAt H' a → Kp [a] H H' → Q (.str z) H'
theorem ok_law_odd_text {f : Addr} {fd : FuncData} (D : Df K mg "_law_odd_text" s_law_odd_text ["_law_row_here"] f fd) (T : BtLn mg) {fr : Addr} {fdr : FuncData} (D_law_draw : Df K mg "_law_draw" s_law_draw ["_law_row_here", "_law_many"] fr fdr) (G_law_draw : FnOk P w K mg base CX0 1 fr fdr ["_law_row_here", "_law_many"] spDraw)
    {fw : Addr} {fdw : FuncData} (D_law_word : Df K mg "_law_word" s_law_word ["_law_row_here", "_law_size_here"] fw fdw) (G_law_word : FnOk P w K mg base CX0 2 fw fdw ["_law_row_here", "_law_size_here"] spWord) : FnOk P w K mg base CX0 3 f fd ["_law_row_here"] spOddT := by
  refine D.F.ok sc_law_odd_text (fun vs H Q E h => ?_) (fun cdv A outer s H vs Q E hr h => ?_)
  · obtain ⟨_, rfl, _⟩ := h
    rfl
  · obtain ⟨a, rfl, ha, q⟩ := h
    refine ⟨_, (pss_cons (ps_set (i := 1) sc_law_odd_text.nd rfl (Or.inl rfl) pe_str)
      (pss_cons (ps_set (i := 2) sc_law_odd_text.nd rfl (Or.inl rfl) (pe_call G_law_draw (hr.mono (by decide)) rfl D_law_draw.g D_law_draw.F.kp D_law_draw.b .nil pass0 (pa_cons (pv 0) (pa_cons pe_int pa_nil))))
      (pss_cons (ps_if (pt_cmpR op_eq (pv 2) pe_int (nomark _)) (pss_one (ps_ret pe_str)) pss_nil)
      (pss_cons (ps_if (pt_cmpR op_eq (pv 2) pe_int (nomark _)) (pss_one (ps_ret (pe_call G_law_word (hr.mono (by decide)) rfl D_law_word.g D_law_word.F.kp D_law_word.b .nil pass0 (pa_cons (pv 0) (pa_cons (pe_op op_add pe_int (pe_call G_law_draw (hr.mono (by decide)) rfl D_law_draw.g D_law_draw.F.kp D_law_draw.b .nil pass0 (pa_cons (pv 0) (pa_cons pe_int pa_nil)))) pa_nil))))) pss_nil)
      (pss_cons (ps_set (i := 3) sc_law_odd_text.nd rfl (Or.inl rfl) (pe_call G_law_word (hr.mono (by decide)) rfl D_law_word.g D_law_word.F.kp D_law_word.b .nil pass0 (pa_cons (pv 0) (pa_cons (pe_call G_law_draw (hr.mono (by decide)) rfl D_law_draw.g D_law_draw.F.kp D_law_draw.b .nil pass0 (pa_cons (pv 0) (pa_cons pe_int pa_nil))) pa_nil))))
      (pss_cons (ps_set (i := 4) sc_law_odd_text.nd rfl (Or.inl rfl) (pe_call G_law_draw (hr.mono (by decide)) rfl D_law_draw.g D_law_draw.F.kp D_law_draw.b .nil pass0 (pa_cons (pv 0) (pa_cons (pe_op op_add (pe_callB (id := "len") call_len_str (by rfl) T.b_len PySem.boot_len (pa_cons (pv 3) pa_nil)) pe_int) pa_nil))))
      (pss_one (ps_ret (pe_op op_add_str (pe_op op_add_str (pe_slice sl_str (pv 3) po_none (po_some (pv 4))) (pe_ix ix_str (pv 1) (pe_call G_law_draw (hr.mono (by decide)) rfl D_law_draw.g D_law_draw.F.kp D_law_draw.b .nil pass0 (pa_cons (pv 0) (pa_cons (pe_callB (id := "len") call_len_str (by rfl) T.b_len PySem.boot_len (pa_cons (pv 1) pa_nil)) pa_nil))) (fun _ _ => rfl))) (pe_slice sl_str (pv 3) (po_some (pv 4)) po_none)))))))))), ?_⟩
    try simp (maxSteps := 1000000) only [tSeq, tIfS, tTest, tOp, tUn, tCB, tCons, tNil, tVar, tC, rI0, rI, rU, rEq, rNe, tRet, tRetN, tAsg, gName, gSub, tBM, tBM0, tNext, tB, tNot, tAnd, tOr, tIf, tCall, tDrop, tBreak, tCont, L2.start, tDGet, sDPut, tTup, tLst, tDNewK, tRevL, rCat, rAppend, rPop, rSetL, tAndV, tOrV, tNotV, tSl, tPart, tNoPart, tM1, gTup, gCons, gNil, cxK, cxnK, List.map_cons, List.map_nil, List.length_cons, List.length_nil, List.replicate, List.cons_append, List.nil_append, List.append_nil, List.set_cons_zero, List.set_cons_succ, List.getElem?_cons_zero, List.getElem?_cons_succ, Option.some.injEq, V.ref.injEq, V.int.injEq, V.str.injEq, V.bl.injEq, V.ty.injEq, exists_eq_left', exists_eq_left, exists_and_left, List.cons.injEq, and_true, true_and, sc_ii, sc_ss, sc_bb, sc_ni, sc_in, sc_is, sc_si, sc_nn, decide_true, decide_false, reduceCtorEq, Bool.false_eq_true, if_true, if_false, ite_true, ite_false, exists_const, eq_self, false_and, and_false, or_false, false_or, exists_false, Evl.rLenS, rSum, wipe, tYes, exists_eq, exists_eq', rIxL, rIxT, rIxS, exists_and_right, gt_iff_lt, not_true_eq_false, not_false_eq_true, Bool.not_true, Bool.not_false, decide_eq_true_eq, Nat.reduceSub, Nat.reduceAdd, List.append_assoc, tChain, tDIn, tDNotIn, sDDel, tAug, ipI]
    refine ⟨a, 4, rfl, ha, by decide, fun r H1 r0 r1 a1 k1 => ?_⟩
    dsimp only
    refine ⟨rfl, ?_⟩
    split
    · exact q _ _ (by decide +kernel) (by decide +kernel) (by decide +kernel) a1 k1
    refine ⟨rfl, ?_⟩
    split
    · refine ⟨a, 4, rfl, a1, by decide, fun x H2 x0 x1 a2 k2 => ⟨x, rfl, a, 9 + x, rfl, a2, by omega, by omega, fun z H3 lz low a3 k3 => ?_⟩⟩
      exact q z H3 (not_long (by omega)) (by omega) (low_ok low) a3 ((k1.trans k2).trans k3)
    have sl : (Str.ofString "ABCDEFGHIJKLMNOPQRSTUVWXYZ0123456789 !#$&'()*+,-./:;<=>?\x40[]^_{|}~\"\n").length = 67 := by decide +kernel
    refine ⟨a, 8, rfl, a1, by decide, fun n H2 n0 n8 a2 k2 => ⟨a, n, rfl, a2, n0, by omega, fun z H3 lz low a3 k3 => ?_⟩⟩
    have lz8 : z.length ≤ 8 := by omega
    refine ⟨z, rfl, by rw [sizeLine_eq]; omega, a, (z.length : Nat) + 1, rfl, a3, by omega, fun i H4 i0 i1 a4 k4 => ⟨i, rfl, z, rfl, by rw [sizeLine_eq]; omega, ?_⟩⟩
    rw [sl]
    refine ⟨by rw [sizeLine_eq]; decide, a, 67, rfl, a4, by decide, fun j H5 j0 j1 a5 k5 => ⟨j, rfl, by rw [sizeLine_eq]; decide, ?_⟩⟩
    obtain ⟨c, ec, hc⟩ := odd_sign j j0 j1
    have lc : ∀ lo hi, (cutS z lo hi).length ≤ z.length := fun lo hi => cut_le
    have l1 : ((⟨#[c]⟩ : Str)).length = 1 := rfl
    have la : ∀ x y : Str, (x ++ y).length = x.length + y.length := fun x y => Array.size_append
    have c1 := lc none (some i)
    have c2 := lc (some i) none
    refine ⟨c, ec, _, rfl, by rw [l1, sizeLine_eq]; omega, i, rfl, z, rfl, by rw [sizeLine_eq]; omega, _, rfl, by rw [la, l1, sizeLine_eq]; omega, ?_⟩
    refine q _ H5 (not_low (c := c) ?_ hc.1) (by rw [la, la, l1]; omega) ?_ a5 (((((k1.trans k2).trans k3).trans k4).trans k5))
    · rw [app_list, app_list]
      simp
    · refine ok_app (ok_app (ok_cut (low_ok low)) ?_) (ok_cut (low_ok low))
      show (#[c].all (· < 0x110000)) = true
      simp [hc.2]
end
end My

set_option Elab.async false
set_option linter.all false
set_option maxRecDepth 100000
set_option maxHeartbeats 4000000
namespace My
open PySem L2 NdefX
abbrev s_law_steps : Stmt := top 33
theorem sc_law_steps : FnScope ["_law_row_here", "_law_names_here", "_law_locks", "_law_size_here", "_law_steps_here", "_law_held", "_law_k", "_law_left", "_law_lock", "_law_way"] ["_law_row_here", "_law_names_here", "_law_locks", "_law_size_here"] (defScope s_law_steps) := ⟨rfl, rfl, rfl, by decide +kernel, rfl, by decide +kernel, by decide +kernel⟩
/-- a good step, as data, and what it locks or frees -/
def GoodSt (d : PyData) (l : Lk) : Prop := ∃ x rs ds, d = .tuple (.str x :: ds) ∧ (x, rs) ∈ forms ∧ stepD rs ds = true ∧ SgR rs ds ∧ szD d = true ∧ noL d = true ∧ ds.length ≤ 5 ∧ ((l = none ∧ x ≠ "lock" ∧ x ≠ "free") ∨ ∃ b n, l = some (b, n) ∧ x = (if b then "lock" else "free") ∧ ds = [.str n] ∧ nameS n = true)
/-- the steps of a row, and what each locks or frees -/
def GoodRs (ds : List PyData) (ls : List Lk) : Prop := ds.length = ls.length ∧ ∀ (i : Nat) (d : PyData), ds[i]? = some d → ∃ l, ls[i]? = some l ∧ GoodSt d l
theorem GoodRs.nil : GoodRs [] [] := ⟨rfl, fun i d e => nomatch e⟩
theorem GoodRs.snoc {ds : List PyData} {ls : List Lk} {d : PyData} {l : Lk} (h : GoodRs ds ls) (g : GoodSt d l) : GoodRs (ds ++ [d]) (ls ++ [l]) := ⟨by rw [List.length_append, List.length_append, h.1]; rfl, fun i x e => by
  by_cases hi : i < ds.length
  · rw [List.getElem?_append_left hi] at e
    obtain ⟨m, em, gm⟩ := h.2 i x e
    exact ⟨m, by rw [List.getElem?_append_left (by rw [← h.1]; exact hi)]; exact em, gm⟩
  · have hl := (List.getElem?_eq_some_iff.mp e).1
    rw [List.length_append] at hl
    have ei : i = ds.length := by simp at hl; omega
    subst ei
    rw [List.getElem?_append_right (Nat.le_refl _), Nat.sub_self] at e
    cases e
    exact ⟨l, by rw [h.1, List.getElem?_append_right (Nat.le_refl _), Nat.sub_self]; rfl, g⟩⟩
theorem GoodRs.noL {ds : List PyData} {ls : List Lk} (h : GoodRs ds ls) : noLAll ds = true := by
  have : ∀ d ∈ ds, My.noL d = true := fun d hd => by
    obtain ⟨i, ei⟩ := List.getElem?_of_mem hd
    obtain ⟨_, _, _, _, _, _, _, _, _, _, n, _⟩ := h.2 i d ei
    exact n
  clear h
  induction ds with
  | nil => rfl
  | cons d r ih =>
    show (My.noL d && noLAll r) = true
    rw [this d List.mem_cons_self, ih fun x hx => this x (List.mem_cons_of_mem _ hx)]; rfl
theorem st_none {d : PyData} (h : stR d) (n : noL d = true) : GoodSt d none := by
  obtain ⟨x, rs, ds, e, hf, sd, sg, sz, l5, n1, n2⟩ := h
  exact ⟨x, rs, ds, e, hf, sd, sg, sz, n, l5, .inl ⟨rfl, n1, n2⟩⟩
theorem st_lock {n : Str} (h : nameS n = true) (b : Bool) : GoodSt (.tuple [.str (if b then "lock" else "free"), .str n]) (some (b, n)) := by
  have hn : partD "name" (.str n) = true := by rw [partD_name]; exact h
  refine ⟨if b then "lock" else "free", ["name"], [.str n], rfl, by cases b <;> decide +kernel, by simp [stepD, hn], fun i d ed er => ?_, ?_, by cases b <;> rfl, by simp, .inr ⟨b, n, rfl, by cases b <;> rfl, rfl, h⟩⟩
  · cases i with
    | zero =>
      have : (Str.ofString "name") = Str.ofString "guard" := Option.some.inj er
      exact absurd this (by decide +kernel)
    | succ i => cases ed
  · show (szD (.str _) && (szD (.str n) && true)) = true
    rw [nameS_sz h]
    cases b <;> decide +kernel
theorem erase_nd {n : Str} : ∀ {hs : List Str} {j : Nat}, hs.Nodup → hs[j]? = some n → hs.eraseIdx j = hs.filter fun m => decide (m ≠ n)
  | [], _, _, e => nomatch e
  | x :: hs, 0, nd, e => by
    cases e
    rw [List.nodup_cons] at nd
    rw [List.eraseIdx_cons_zero, List.filter_cons, if_neg (by simp)]
    have : hs.filter (fun m => decide (m ≠ n)) = hs := List.filter_eq_self.mpr fun y hy => by
      have : y ≠ n := fun z => nd.1 (by rw [← z]; exact hy)
      exact decide_eq_true this
    exact this.symm
  | x :: hs, j + 1, nd, e => by
    rw [List.nodup_cons] at nd
    have e' : hs[j]? = some n := e
    have hx : x ≠ n := fun z => nd.1 (z ▸ List.mem_of_getElem? e')
    rw [List.eraseIdx_cons_succ, List.filter_cons, if_pos (decide_eq_true hx), erase_nd nd.2 e']
/-- the row so far -/
structure LkRow (ls : List Lk) (hs : List Str) : Prop where
  held : HeldL ls ls.length hs
  fine : ∀ i, i < ls.length → fine ls i
theorem cn_snoc {n : Str} {ls : List Lk} {l : Lk} {i : Nat} (h : i ≤ ls.length) : cn n (ls ++ [l]) i = cn n ls i := by
  unfold cn
  rw [List.take_append_of_le_length h]
theorem LkRow.nil : LkRow [] [] := ⟨HeldL.zero, fun i h => absurd h (Nat.not_lt_zero i)⟩
theorem LkRow.ext {ls : List Lk} {hs : List Str} (h : LkRow ls hs) (l : Lk) : HeldL (ls ++ [l]) ls.length hs ∧ (∀ i, i < ls.length → My.fine (ls ++ [l]) i) := by
  refine ⟨⟨h.held.nd, fun n => by rw [cn_snoc (Nat.le_refl _)]; exact h.held.c n, ?_, h.held.sz⟩, fun i hi b n e => ?_⟩
  · have := h.held.d
    unfold dp at this ⊢
    rw [List.take_append_of_le_length (Nat.le_refl _)]
    exact this
  · rw [List.getElem?_append_left hi] at e
    rw [cn_snoc (by omega)]
    exact h.fine i hi b n e
theorem LkRow.oth {ls : List Lk} {hs : List Str} (h : LkRow ls hs) : LkRow (ls ++ [none]) hs := by
  obtain ⟨a, b⟩ := h.ext none
  have e : (ls ++ [none])[ls.length]? = some (none : Lk) := by rw [List.getElem?_append_right (Nat.le_refl _), Nat.sub_self]; rfl
  refine ⟨by rw [List.length_append]; exact a.oth e, fun i hi => ?_⟩
  rw [List.length_append] at hi
  by_cases z : i < ls.length
  · exact b i z
  · have : i = ls.length := by simp at hi; omega
    subst this
    intro b n e2
    rw [e] at e2; cases e2
theorem LkRow.lock {ls : List Lk} {hs : List Str} {n : Str} (h : LkRow ls hs) (hn : n ∉ hs) : LkRow (ls ++ [some (true, n)]) (hs ++ [n]) := by
  obtain ⟨a, b⟩ := h.ext (some (true, n))
  have e : (ls ++ [some (true, n)])[ls.length]? = some (some (true, n)) := by rw [List.getElem?_append_right (Nat.le_refl _), Nat.sub_self]; rfl
  refine ⟨by rw [List.length_append]; exact a.lock e hn, fun i hi => ?_⟩
  rw [List.length_append] at hi
  by_cases z : i < ls.length
  · exact b i z
  · have : i = ls.length := by simp at hi; omega
    subst this
    intro b m e2
    rw [e] at e2; cases e2
    rw [a.c, if_neg hn]; rfl
theorem LkRow.free {ls : List Lk} {hs : List Str} {n : Str} {j : Nat} (h : LkRow ls hs) (hn : hs[j]? = some n) : LkRow (ls ++ [some (false, n)]) (hs.eraseIdx j) := by
  obtain ⟨a, b⟩ := h.ext (some (false, n))
  have hm := List.mem_of_getElem? hn
  have e : (ls ++ [some (false, n)])[ls.length]? = some (some (false, n)) := by rw [List.getElem?_append_right (Nat.le_refl _), Nat.sub_self]; rfl
  refine ⟨by rw [List.length_append, erase_nd h.held.nd hn]; exact a.free e hm, fun i hi => ?_⟩
  rw [List.length_append] at hi
  by_cases z : i < ls.length
  · exact b i z
  · have : i = ls.length := by simp at hi; omega
    subst this
    intro b m e2
    rw [e] at e2; cases e2
    rw [a.c, if_pos hm]; rfl
theorem LkRow.good {ls : List Lk} (h : LkRow ls []) : IsF ls none := .good h.fine fun n => by rw [h.held.c]; simp
structure BtRg (mg : Str → Option Value) : Prop where
  b_len : mg "len" = none
  b_range : mg "range" = none
section
variable {P : Program} {w : World} {K : PySem.W.Frag} {mg : Str → Option Value} {base : Heap}
def spSteps : Sp := fun vs H Q _ => ∃ (a nl kl : Addr) (zs ks : List Str) (m : Nat), vs = [.ref a, .ref nl, .ref kl, .int (m : Nat)] ∧ RowAt H a ∧ NmsAt H nl zs ∧ NmsAt H kl ks ∧ a ≠ nl ∧ a ≠ kl ∧ m ≤ 120 ∧ ∀ (p : Addr) (xs : List V) (ds : List PyData) (ls : List Lk) (H' : Hp), H p = none → H' p = some (.lst xs) → DqAll H' xs ds → GoodRs ds ls → LkRow ls [] → (∀ b n, some (b, n) ∈ ls → n ∈ ks) → xs.length = m → RowAt H' a → Kp [a] H H' → Q (.ref p) H'
def StInv (a nl kl : Addr) (m : Nat) (ks : List Str) (o hq : Addr) (H : Hp) (j : Nat) (σ : L2.St) (H' : Hp) : Prop := ∃ (xs : List V) (hs : List Str) (ds : List PyData) (ls : List Lk) (c6 c7 c8 c9 : Option V), σ = [some (.ref a), some (.ref nl), some (.ref kl), some (.int (m : Nat)), some (.ref o), some (.ref hq), c6, c7, c8, c9] ∧ H' o = some (.lst xs) ∧ H' hq = some (.lst (hs.map V.str)) ∧ DqAll H' xs ds ∧ GoodRs ds ls ∧ LkRow ls hs ∧ (∀ n ∈ hs, n ∈ ks) ∧ (∀ b n, some (b, n) ∈ ls → n ∈ ks) ∧ hs.length ≤ m - j ∧ ls.length = j ∧ RowAt H' a ∧ Kp [a] H H'
theorem atI_mem {xs : List V} {i : Int} {v : V} (h : atI xs i = some v) : v ∈ xs := by
  unfold atI at h
  cases e : ixN xs.length i with
  | none => rw [e] at h; cases h
  | some j => rw [e] at h; exact List.mem_of_getElem? h
theorem first_at {u : Str} : ∀ {hs : List Str}, u ∈ hs → ∃ j, hs[j]? = some u ∧ ∀ m : Nat, m < j → hs[m]? ≠ some u
  | y :: r, h => by
    by_cases e : y = u
    · exact ⟨0, by rw [e]; rfl, fun m hm => absurd hm (by omega)⟩
    · rcases List.mem_cons.mp h with z | z
      · exact absurd z.symm e
      · obtain ⟨j, h1, h2⟩ := first_at z
        refine ⟨j + 1, h1, fun m hm => ?_⟩
        cases m with
        | zero => exact fun q => e (Option.some.inj q)
        | succ m => exact h2 m (by omega)
theorem dq_snoc {H : Hp} {v : V} {d : PyData} : ∀ {us : List V} {ds : List PyData}, DqAll H us ds → Dq H v d → DqAll H (us ++ [v]) (ds ++ [d])
  | _, _, .nil, h => .cons h .nil
  | _, _, .cons a t, h => .cons a (dq_snoc t h)
theorem GoodSt.nl {d : PyData} {l : Lk} (h : GoodSt d l) : noL d = true := by
  obtain ⟨_, _, _, _, _, _, _, _, n, _⟩ := h
  exact n
theorem RowAt.upn {H : Hp} {a p : Addr} {u : HO} (h : RowAt H a) (n : a ≠ p) : RowAt (upd H p u) a := by
  obtain ⟨ns, e, r⟩ := h
  exact ⟨ns, by rw [upd_ne n]; exact e, r⟩
theorem st_add {a nl kl : Addr} {m : Nat} {ks : List Str} {o hq : Addr} {H H4 : Hp} {j : Nat} {xs : List V} {hs : List Str} {ds : List PyData} {ls : List Lk} {v : V} {d : PyData} {l : Lk} {c6 c7 c8 c9 : Option V} (oq : o ≠ hq) (ao : o ∉ [a]) (no : H o = none) (ho : H4 o = some (.lst xs)) (hh : H4 hq = some (.lst (hs.map V.str))) (hd : DqAll H4 xs ds) (gr : GoodRs ds ls) (lk : LkRow (ls ++ [l]) hs) (hks : ∀ n ∈ hs, n ∈ ks) (lks : ∀ b n, some (b, n) ∈ ls → n ∈ ks) (lk1 : ∀ b n, l = some (b, n) → n ∈ ks) (hl : hs.length ≤ m - (j + 1)) (lj : ls.length = j) (hj : j ≤ 200) (a4 : RowAt H4 a) (k4 : Kp [a] H H4) (hv : Dq H4 v d) (g : GoodSt d l) :
    ∃ x, H4 o = some (.lst x) ∧ x.length < sizeLine ∧ StInv a nl kl m ks o hq H (j + 1) [some (.ref a), some (.ref nl), some (.ref kl), some (.int (m : Nat)), some (.ref o), some (.ref hq), c6, c7, c8, c9] (upd H4 o (.lst (x ++ [v]))) := by
  have kS : Kp [o] H4 (upd H4 o (.lst (xs ++ [v]))) := (Kp.refl [o] _).put (List.mem_singleton.mpr rfl)
  have sS : ∀ b ∈ [o], ∃ ys, H4 b = some (.lst ys) := fun b hb => by rw [List.mem_singleton.mp hb]; exact ⟨_, ho⟩
  have lx : xs.length = j := by rw [hd.len, gr.1, lj]
  refine ⟨xs, ho, smallL (by omega), xs ++ [v], hs, ds ++ [d], ls ++ [l], _, _, _, _, rfl, upd_same, by rw [upd_ne (Ne.symm oq)]; exact hh, dq_snoc (DqAll.kpS kS sS hd gr.noL) (Dq.kpS kS sS hv g.nl), gr.snoc g, lk, hks, fun b n h => ?_, hl, by rw [List.length_append, lj]; rfl, a4.upn fun z => ao (by rw [← z]; exact List.mem_cons_self), k4.wr no⟩
  rcases List.mem_append.mp h with h | h
  · exact lks b n h
  · exact lk1 b n (List.mem_singleton.mp h).symm
theorem ok_law_steps {f : Addr} {fd : FuncData} (D : Df K mg "_law_steps" s_law_steps ["_law_row_here", "_law_names_here", "_law_locks", "_law_size_here"] f fd) (T : BtRg mg) {fr : Addr} {fdr : FuncData} (D_law_draw : Df K mg "_law_draw" s_law_draw ["_law_row_here", "_law_many"] fr fdr) (G_law_draw : FnOk P w K mg base CX0 1 fr fdr ["_law_row_here", "_law_many"] spDraw)
    {fs : Addr} {fds : FuncData} (D_law_step : Df K mg "_law_step" s_law_step ["_law_row_here", "_law_names_here"] fs fds) (G_law_step : FnOk P w K mg base CX0 4 fs fds ["_law_row_here", "_law_names_here"] (spDrawn stR)) : FnOk P w K mg base CX0 5 f fd ["_law_row_here", "_law_names_here", "_law_locks", "_law_size_here"] spSteps := by
  refine D.F.ok sc_law_steps (fun vs H Q E h => ?_) (fun cdv A outer s H vs Q E hr h => ?_)
  · obtain ⟨_, _, _, _, _, _, rfl, _⟩ := h
    rfl
  · obtain ⟨a, nl, kl, zs, ks, m, rfl, ha, hn, hk, ne, ne2, m120, q⟩ := h
    have hk0 := hk
    have hn0 := hn
    refine ⟨_, (pss_cons (ps_set (i := 4) sc_law_steps.nd rfl (Or.inl rfl) (pe_lst pa_nil))
      (pss_cons (ps_set (i := 5) sc_law_steps.nd rfl (Or.inl rfl) (pe_lst pa_nil))
      (pss_cons (ps_for PassesOwn.never rfl (pi_range1 rfl T.b_range (pa_cons (pv 3) pa_nil)) (pg_name (i := 6) sc_law_steps.nd rfl (Or.inl rfl)) (pss_cons (ps_set (i := 7) sc_law_steps.nd rfl (Or.inl rfl) (pe_op op_sub (pv 3) (pv 6)))
      (pss_cons (ps_set (i := 8) sc_law_steps.nd rfl (Or.inl rfl) (pe_ix (r := rIxL K) ix_list (pv 2) (pe_call G_law_draw (hr.mono (by decide)) rfl D_law_draw.g D_law_draw.F.kp D_law_draw.b .nil pass0 (pa_cons (pv 0) (pa_cons (pe_callB (id := "len") (r := Evl.rLenS K) call_len_seq (by rfl) T.b_len PySem.boot_len (pa_cons (pv 2) pa_nil)) pa_nil))) (fun _ _ => rfl)))
      (pss_cons (ps_set (i := 9) sc_law_steps.nd rfl (Or.inl rfl) (pe_call G_law_draw (hr.mono (by decide)) rfl D_law_draw.g D_law_draw.F.kp D_law_draw.b .nil pass0 (pa_cons (pv 0) (pa_cons pe_int pa_nil))))
      (pss_one (ps_if (pt_cmpR op_ge (pe_callB (id := "len") (r := Evl.rLenS K) call_len_seq (by rfl) T.b_len PySem.boot_len (pa_cons (pv 5) pa_nil)) (pv 7) (nomark _)) (pss_one (ps_expr (pe_bm PySem.F.plainAttrs_list PySem.F.slot_list_append PySem.F.type_list_append mt_append (pv 4) (pa_cons (pe_tup (pa_cons pe_str (pa_cons (pe_bm PySem.F.plainAttrs_list PySem.F.slot_list_pop PySem.F.type_list_pop mt_popAt (pv 5) (pa_cons (pe_call G_law_draw (hr.mono (by decide)) rfl D_law_draw.g D_law_draw.F.kp D_law_draw.b .nil pass0 (pa_cons (pv 0) (pa_cons (pe_callB (id := "len") (r := Evl.rLenS K) call_len_seq (by rfl) T.b_len PySem.boot_len (pa_cons (pv 5) pa_nil)) pa_nil))) pa_nil)) pa_nil))) pa_nil)))) (pss_one (ps_if (PW.pt (pw_and (pt_cmpR op_eq (pv 9) pe_int (nomark _)) (pw_and1 (pt_cmpR op_in_seq (pv 8) (pv 5) (by rfl))))) (pss_cons (ps_expr (pe_bm PySem.F.plainAttrs_list PySem.F.slot_list_remove PySem.F.type_list_remove mt_removeS (pv 5) (pa_cons (pv 8) pa_nil)))
      (pss_one (ps_expr (pe_bm PySem.F.plainAttrs_list PySem.F.slot_list_append PySem.F.type_list_append mt_append (pv 4) (pa_cons (pe_tup (pa_cons pe_str (pa_cons (pv 8) pa_nil))) pa_nil))))) (pss_one (ps_if (PW.pt (pw_and (pt_cmpR op_eq (pv 9) pe_int (nomark _)) (pw_and1 (pt_cmpR op_ge (pv 7) (pe_op op_add (pe_callB (id := "len") (r := Evl.rLenS K) call_len_seq (by rfl) T.b_len PySem.boot_len (pa_cons (pv 5) pa_nil)) pe_int) (nomark _))))) (pss_cons (ps_expr (pe_bm PySem.F.plainAttrs_list PySem.F.slot_list_append PySem.F.type_list_append mt_append (pv 5) (pa_cons (pv 8) pa_nil)))
      (pss_one (ps_expr (pe_bm PySem.F.plainAttrs_list PySem.F.slot_list_append PySem.F.type_list_append mt_append (pv 4) (pa_cons (pe_tup (pa_cons pe_str (pa_cons (pv 8) pa_nil))) pa_nil))))) (pss_one (ps_expr (pe_bm PySem.F.plainAttrs_list PySem.F.slot_list_append PySem.F.type_list_append mt_append (pv 4) (pa_cons (pe_call G_law_step (hr.mono (by decide)) rfl D_law_step.g D_law_step.F.kp D_law_step.b .nil pass0 (pa_cons (pv 0) (pa_cons (pv 1) pa_nil))) pa_nil))))))))))))))
      (pss_one (ps_ret (pv 4)))))), ?_⟩
    try simp (maxSteps := 1000000) only [tSeq, tIfS, tTest, tOp, tUn, tCB, tCons, tNil, tVar, tC, rI0, rI, rU, rEq, rNe, tRet, tRetN, tAsg, gName, gSub, tBM, tBM0, tNext, tB, tNot, tAnd, tOr, tIf, tCall, tDrop, tBreak, tCont, L2.start, tDGet, sDPut, tTup, tLst, tDNewK, tRevL, rCat, rAppend, rPop, rSetL, tAndV, tOrV, tNotV, tSl, tPart, tNoPart, tM1, gTup, gCons, gNil, cxK, cxnK, List.map_cons, List.map_nil, List.length_cons, List.length_nil, List.replicate, List.cons_append, List.nil_append, List.append_nil, List.set_cons_zero, List.set_cons_succ, List.getElem?_cons_zero, List.getElem?_cons_succ, Option.some.injEq, V.ref.injEq, V.int.injEq, V.str.injEq, V.bl.injEq, V.ty.injEq, exists_eq_left', exists_eq_left, exists_and_left, List.cons.injEq, and_true, true_and, sc_ii, sc_ss, sc_bb, sc_ni, sc_in, sc_is, sc_si, sc_nn, decide_true, decide_false, reduceCtorEq, Bool.false_eq_true, if_true, if_false, ite_true, ite_false, exists_const, eq_self, false_and, and_false, or_false, false_or, exists_false, Evl.rLenS, rSum, wipe, tYes, exists_eq, exists_eq', rIxL, rIxT, rIxS, exists_and_right, gt_iff_lt, not_true_eq_false, not_false_eq_true, Bool.not_true, Bool.not_false, decide_eq_true_eq, Nat.reduceSub, Nat.reduceAdd, List.append_assoc, tChain, tDIn, tDNotIn, sDDel, tAug, ipI]
    refine ⟨Nat.zero_le _, fun o no => ⟨Nat.zero_le _, fun hq nq => ?_⟩⟩
    have ko := (Kp.new no : Kp [] H (upd H o (.lst [])))
    have kq := ko.trans (Kp.new nq (o := .lst []))
    have oq : o ≠ hq := fun z => by rw [← z, upd_same] at nq; cases nq
    have nqH : H hq = none := ko.free0 nq
    have ho0 : upd (upd H o (.lst [])) hq (.lst []) o = some (.lst []) := by rw [upd_ne oq]; exact upd_same
    have aq : hq ∉ [a] := not1 fun z => by
      obtain ⟨ns, e, _⟩ := ha
      rw [z, e] at nqH; cases nqH
    have ao : o ∉ [a] := not1 fun z => by
      obtain ⟨ns, e, _⟩ := ha
      rw [z, e] at no; cases no
    refine ⟨.int (m : Nat), rfl, ((m : Nat) : Int), rfl, by omega, by omega, for_range (lo := 0) (n := ((m : Nat) : Int).toNat) (StInv a nl kl m ks o hq H) ⟨[], [], [], [], _, _, _, _, rfl, ho0, upd_same, .nil, .nil, LkRow.nil, (fun _ h => nomatch h), (fun _ _ h => nomatch h), Nat.zero_le _, rfl, ha.kp0 kq, kq.of0⟩ ?_ ?_⟩
    · rintro j σ H1 hj ⟨xs, hs, ds, ls, c6, c7, c8, c9, rfl, ho, hh, hd, gr, lk, hks, lks, hl, lj, a1, k1⟩
      have hk1 : NmsAt H1 kl ks := hk0.kpa ne2 k1
      have hn1 : NmsAt H1 nl zs := hn0.kpa ne k1
      have nlL : noLAll ds = true := gr.noL
      try simp (maxSteps := 1000000) only [tSeq, tIfS, tTest, tOp, tUn, tCB, tCons, tNil, tVar, tC, rI0, rI, rU, rEq, rNe, tRet, tRetN, tAsg, gName, gSub, tBM, tBM0, tNext, tB, tNot, tAnd, tOr, tIf, tCall, tDrop, tBreak, tCont, L2.start, tDGet, sDPut, tTup, tLst, tDNewK, tRevL, rCat, rAppend, rPop, rSetL, tAndV, tOrV, tNotV, tSl, tPart, tNoPart, tM1, gTup, gCons, gNil, cxK, cxnK, List.map_cons, List.map_nil, List.length_cons, List.length_nil, List.replicate, List.cons_append, List.nil_append, List.append_nil, List.set_cons_zero, List.set_cons_succ, List.getElem?_cons_zero, List.getElem?_cons_succ, Option.some.injEq, V.ref.injEq, V.int.injEq, V.str.injEq, V.bl.injEq, V.ty.injEq, exists_eq_left', exists_eq_left, exists_and_left, List.cons.injEq, and_true, true_and, sc_ii, sc_ss, sc_bb, sc_ni, sc_in, sc_is, sc_si, sc_nn, decide_true, decide_false, reduceCtorEq, Bool.false_eq_true, if_true, if_false, ite_true, ite_false, exists_const, eq_self, false_and, and_false, or_false, false_or, exists_false, Evl.rLenS, rSum, wipe, tYes, exists_eq, exists_eq', rIxL, rIxT, rIxS, exists_and_right, gt_iff_lt, not_true_eq_false, not_false_eq_true, Bool.not_true, Bool.not_false, decide_eq_true_eq, Nat.reduceSub, Nat.reduceAdd, List.append_assoc, tChain, tDIn, tDNotIn, sDDel, tAug, ipI]
      refine ⟨_, .inl (sq_l hk1.1), a, (ks.length : Nat), by rw [List.length_map], a1, by have := hk1.2.1; omega, fun y H2 y0 y1 a2 k2 => ?_⟩
      have hk2 := hk1.kpa ne2 k2
      obtain ⟨u, hu, gu⟩ := nm_ix (K := K) hk2 y0 y1
      have um : u ∈ ks := by
        have := atI_mem hu
        obtain ⟨u', h', e'⟩ := List.mem_map.mp this
        cases e'; exact h'
      refine ⟨_, y, rfl, sq_l hk2.1, _, hu, a, 4, rfl, a2, by decide, fun r H3 r0 r1 a3 k3 => ?_⟩
      have k23 := k2.trans k3
      have k13 := k1.trans k23
      have hn3 := hn1.kpa ne k23
      have ho3 := k23 _ _ ao ho
      have hh3 := k23 _ _ aq hh
      have hd3 : DqAll H3 xs ds := DqAll.kpS k23 (fun b hb => by
        rw [List.mem_singleton.mp hb]
        obtain ⟨ns, e, _⟩ := a1
        exact ⟨_, e⟩) hd nlL
      have hj' : j < m := by omega
      refine ⟨_, .inl (sq_l hh3), ?_⟩
      rw [List.length_map]
      have two : 2 ≤ sizeLine := by rw [sizeLine_eq]; decide
      have hsl : hs.length ≤ 200 := by omega
      have tupl : ∀ (b : Bool) (n : Str) (hs' : List Str) (H4 : Hp) (c6 c7 c8 c9 : Option V), n ∈ ks → nameS n = true → LkRow (ls ++ [some (b, n)]) hs' → (∀ x ∈ hs', x ∈ ks) → hs'.length ≤ m - (j + 1) → H4 o = some (.lst xs) → H4 hq = some (.lst (hs'.map V.str)) → DqAll H4 xs ds → RowAt H4 a → Kp [a] H H4 → ∀ p, H4 p = none → ∃ x, (upd H4 p (.tup [.str (if b then "lock" else "free"), .str n])) o = some (.lst x) ∧ x.length < sizeLine ∧ StInv a nl kl m ks o hq H (j + 1) [some (.ref a), some (.ref nl), some (.ref kl), some (.int (m : Nat)), some (.ref o), some (.ref hq), c6, c7, c8, c9] (upd (upd H4 p (.tup [.str (if b then "lock" else "free"), .str n])) o (.lst (x ++ [.ref p]))) := fun b n hs' H4 c6 c7 c8 c9 hn gn lk' hks' hl' ho4 hh4 hd4 a4 k4 p np => by
        have kp := (Kp.new np : Kp [] H4 (upd H4 p (.tup [.str (if b then "lock" else "free"), .str n])))
        exact st_add oq ao no (kp _ _ not0 ho4) (kp _ _ not0 hh4) (DqAll.kp kp hd4) gr lk' hks' lks (fun b' n' z => by cases z; exact hn) hl' lj (by omega) (a4.kp0 kp) (k4.trans kp.of0) (.tup upd_same (.cons (.str _) (.cons (.str n) .nil))) (st_lock gn b)
      have othr : ∀ (c6 c7 c8 c9 : Option V), hs.length < m - j → spDrawn stR [V.ref a, V.ref nl] H3 (fun v H4 => ∃ x, H4 o = some (.lst x) ∧ x.length < sizeLine ∧ StInv a nl kl m ks o hq H (j + 1) [some (.ref a), some (.ref nl), some (.ref kl), some (.int (m : Nat)), some (.ref o), some (.ref hq), c6, c7, c8, c9] (upd H4 o (.lst (x ++ [v])))) E0 := fun c6 c7 c8 c9 hlt => ⟨a, nl, zs, rfl, a3, hn3, ne, fun v d H4 hv hr nd a4 k4 => by
        have hd4 : DqAll H4 xs ds := DqAll.kpS k4 (fun b hb => by
          rw [List.mem_singleton.mp hb]
          obtain ⟨ns, e, _⟩ := a3
          exact ⟨_, e⟩) hd3 nlL
        exact st_add oq ao no (k4 _ _ ao ho3) (k4 _ _ aq hh3) hd4 gr lk.oth hks lks (fun b n z => nomatch z) (by omega) lj (by omega) a4 (k13.trans k4) (hv.kp wo_to) (st_none hr nd)⟩
      have kq : ∀ (H4 : Hp) (ys : List V), Kp [a] H3 H4 → Kp [a] H (upd H4 hq (.lst ys)) := fun H4 ys k => (k13.trans k).wr nqH
      have dqq : ∀ (H4 : Hp) (zs' ys : List V), H4 hq = some (.lst zs') → DqAll H4 xs ds → DqAll (upd H4 hq (.lst ys)) xs ds := fun H4 zs' ys e h => DqAll.kpS ((Kp.refl [hq] _).put (List.mem_singleton.mpr rfl)) (fun b hb => by rw [List.mem_singleton.mp hb]; exact ⟨_, e⟩) h nlL
      have anq : a ≠ hq := fun z => aq (by rw [z]; exact List.mem_cons_self)
      split
      · next hge =>
        refine ⟨.inl ⟨rfl, _, sq_l ho3⟩, .inl ⟨rfl, _, sq_l hh3⟩, _, .inl (sq_l hh3), ?_⟩
        rw [List.length_map]
        refine ⟨a, _, rfl, a3, by omega, fun g H4 g0 g1 a4 k4 => ?_⟩
        have hh4 := k4 _ _ aq hh3
        have ho4 := k4 _ _ ao ho3
        have gl : g.toNat < hs.length := by omega
        have eg := List.getElem?_eq_getElem gl
        have ev : (hs.map V.str)[g.toNat]? = some (.str hs[g.toNat]) := by rw [List.getElem?_map, eg]; rfl
        have si : seqIndex? g (hs.map V.str).length = some g.toNat := seqIndex_of g0 (by rw [List.length_map]; exact g1)
        have hd4 : DqAll H4 xs ds := DqAll.kpS k4 (fun b hb => by
          rw [List.mem_singleton.mp hb]
          obtain ⟨ns, e, _⟩ := a3
          exact ⟨_, e⟩) hd3 nlL
        have hm := hks _ (List.getElem_mem gl)
        refine ⟨hq, _, g, g.toNat, _, rfl, rfl, hh4, by omega, by omega, si, ev, two, ?_⟩
        exact tupl false _ (hs.eraseIdx g.toNat) _ _ _ _ _ hm (hk0.2.2.2 _ hm) (lk.free eg) (fun x hx => hks x (List.mem_of_mem_eraseIdx hx)) (by rw [List.length_eraseIdx_of_lt gl]; omega) (by rw [upd_ne oq]; exact ho4) (by rw [upd_same, erase_mapS]) (dqq _ _ _ hh4 hd4) (a4.upn anq) (kq _ _ k4)
      next hlt =>
      have hlt' : hs.length < m - j := by omega
      refine ⟨rfl, ?_⟩
      split
      · next r3 =>
        have inq : rIn K false (.str u) (.ref hq) H3 = rIn K false (.str u) (.ref hq) H3 := rfl
        refine ⟨hq, _, rfl, .inl (sq_l hh3), rfl, flat_strs hs, ?_⟩
        simp only [Bool.false_eq_true, if_false]
        rw [inV_strs]
        refine ⟨_, rfl, ?_⟩
        by_cases hm : u ∈ hs
        · rw [decide_eq_true hm, if_pos rfl]
          obtain ⟨jj, h1, h2⟩ := first_at hm
          refine ⟨.inl ⟨rfl, _, sq_l hh3⟩, hq, hs, u, jj, rfl, rfl, hh3, h1, h2, .inl ⟨rfl, _, sq_l (by rw [upd_ne oq]; exact ho3)⟩, two, ?_⟩
          have jl := (List.getElem?_eq_some_iff.mp h1).1
          exact tupl false u (hs.eraseIdx jj) _ _ _ _ _ um gu (lk.free h1) (fun x hx => hks x (List.mem_of_mem_eraseIdx hx)) (by rw [List.length_eraseIdx_of_lt jl]; omega) (by rw [upd_ne oq]; exact ho3) upd_same (dqq _ _ _ hh3 hd3) (a3.upn anq) (kq _ _ (Kp.refl _ _))
        · rw [decide_eq_false hm, if_neg (by decide)]
          refine ⟨rfl, ?_⟩
          refine ⟨_, .inl (sq_l hh3), ?_⟩
          rw [List.length_map]
          split
          · next h2 =>
            refine ⟨.inl ⟨rfl, _, sq_l hh3⟩, _, hh3, by rw [List.length_map]; exact smallL (by omega), .inl ⟨rfl, _, sq_l (by rw [upd_ne oq]; exact ho3)⟩, two, ?_⟩
            exact tupl true u (hs ++ [u]) _ _ _ _ _ um gu (lk.lock hm) (fun x hx => by
              rcases List.mem_append.mp hx with hx | hx
              · exact hks x hx
              · rw [List.mem_singleton.mp hx]; exact um) (by rw [List.length_append, List.length_singleton]; omega) (by rw [upd_ne oq]; exact ho3) (by rw [upd_same, List.map_append]; rfl) (dqq _ _ _ hh3 hd3) (a3.upn anq) (kq _ _ (Kp.refl _ _))
          · exact ⟨.inl ⟨rfl, _, sq_l ho3⟩, othr _ _ _ _ hlt'⟩
      · next r3 =>
        refine ⟨rfl, ?_⟩
        exact ⟨.inl ⟨rfl, _, sq_l ho3⟩, othr _ _ _ _ hlt'⟩
    · rintro σ H1 ⟨xs, hs, ds, ls, c6, c7, c8, c9, rfl, ho, hh, hd, gr, lk, hks, lks, hl, lj, a1, k1⟩
      try simp (maxSteps := 1000000) only [tSeq, tIfS, tTest, tOp, tUn, tCB, tCons, tNil, tVar, tC, rI0, rI, rU, rEq, rNe, tRet, tRetN, tAsg, gName, gSub, tBM, tBM0, tNext, tB, tNot, tAnd, tOr, tIf, tCall, tDrop, tBreak, tCont, L2.start, tDGet, sDPut, tTup, tLst, tDNewK, tRevL, rCat, rAppend, rPop, rSetL, tAndV, tOrV, tNotV, tSl, tPart, tNoPart, tM1, gTup, gCons, gNil, cxK, cxnK, List.map_cons, List.map_nil, List.length_cons, List.length_nil, List.replicate, List.cons_append, List.nil_append, List.append_nil, List.set_cons_zero, List.set_cons_succ, List.getElem?_cons_zero, List.getElem?_cons_succ, Option.some.injEq, V.ref.injEq, V.int.injEq, V.str.injEq, V.bl.injEq, V.ty.injEq, exists_eq_left', exists_eq_left, exists_and_left, List.cons.injEq, and_true, true_and, sc_ii, sc_ss, sc_bb, sc_ni, sc_in, sc_is, sc_si, sc_nn, decide_true, decide_false, reduceCtorEq, Bool.false_eq_true, if_true, if_false, ite_true, ite_false, exists_const, eq_self, false_and, and_false, or_false, false_or, exists_false, Evl.rLenS, rSum, wipe, tYes, exists_eq, exists_eq', rIxL, rIxT, rIxS, exists_and_right, gt_iff_lt, not_true_eq_false, not_false_eq_true, Bool.not_true, Bool.not_false, decide_eq_true_eq, Nat.reduceSub, Nat.reduceAdd, List.append_assoc, tChain, tDIn, tDNotIn, sDDel, tAug, ipI]
      have e : hs = [] := List.eq_nil_of_length_eq_zero (by omega)
      subst e
      exact q o xs ds ls H1 no ho hd gr lk lks (by rw [hd.len, gr.1, lj]; omega) a1 k1
end
end My

set_option Elab.async false
set_option linter.all false
set_option maxRecDepth 100000
set_option maxHeartbeats 4000000
namespace My
open PySem L2 NdefX
theorem names_slice {H : Hp} {a : Addr} {zs : List Str} {i j : Nat} (h : NmsAt H a zs) (hi : i < j) (hj : j ≤ zs.length) {H' : Hp} {p : Addr} (e : H' p = some (.lst (((zs.drop i).take (j - i)).map V.str))) : NmsAt H' p ((zs.drop i).take (j - i)) := by
  obtain ⟨_, _, n11, hz⟩ := h
  refine ⟨e, ?_, ?_, fun z hm => hz z (List.mem_of_mem_drop (List.mem_of_mem_take hm))⟩
  · rw [List.length_take, List.length_drop]; omega
  · rw [List.length_take, List.length_drop]; omega
end My

set_option Elab.async false
set_option linter.all false
set_option maxRecDepth 100000
set_option maxHeartbeats 4000000
namespace My
open PySem L2 NdefX
abbrev s_law_odd_part : Stmt := top 36
theorem sc_law_odd_part : FnScope ["_law_row_here", "_law_names_here", "_law_way", "_law_name", "_law_worth_here", "_law_at", "_law_spoilt_here"] ["_law_row_here", "_law_names_here"] (defScope s_law_odd_part) := ⟨rfl, rfl, rfl, by decide +kernel, rfl, by decide +kernel, by decide +kernel⟩
/-! ### data of which some is in lists that are not written -/
theorem kp_wo {S : List Addr} {H : Hp} : Kp S H (wo S H) := fun b ob h e => by
  unfold wo; rw [if_neg h]; exact e
theorem kp_in {S : List Addr} {a : Addr} {H H' : Hp} (k : Kp [a] H H') (h : a ∈ S) : Kp S H H' := fun b ob hb e => k b ob (not1 fun z => hb (z ▸ h)) e
theorem Std.kpa {S : List Addr} {a : Addr} {H H' : Hp} (h : Std S H) (k : Kp [a] H H') (r : RowAt H' a) : Std S H' := fun b hb => by
  by_cases z : b = a
  · subst z
    obtain ⟨ns, e, _⟩ := r
    exact ⟨_, e⟩
  · obtain ⟨xs, e⟩ := h b hb
    exact ⟨xs, k _ _ (not1 z) e⟩
theorem Std.kp {S : List Addr} {H H' : Hp} (h : Std S H) (k : Kp [] H H') : Std S H' := fun b hb => by
  obtain ⟨xs, e⟩ := h b hb
  exact ⟨xs, k _ _ not0 e⟩
theorem Std.ex {S : List Addr} {H : Hp} (h : Std S H) : ∀ a ∈ S, ∃ u, H a = some u := fun a ha => by
  obtain ⟨xs, e⟩ := h a ha
  exact ⟨_, e⟩
theorem noL_wo {S : List Addr} {H H' : Hp} {v : V} {d : PyData} (k : Kp S H H') (hS : Std S H) (h : Dq H v d) (n : noL d = true) : Dq (wo S H') v d := Dq.kpS (k.trans kp_wo) hS h n
theorem tup_wo {S : List Addr} {H : Hp} {r : Addr} {us : List V} (hS : Std S H) (e : H r = some (.tup us)) : wo S H r = some (.tup us) := by
  unfold wo
  rw [if_neg fun m => by
    obtain ⟨xs, q⟩ := hS r m
    rw [e] at q; cases q]
  exact e
/-- what is shown and asked of odd data -/
structure OddP (d : PyData) : Prop where
  no : ∀ r, partD r d = false
  sg : sgOk d
  sz : szD d = true
  sh : Sh 6 200 d
theorem no_part {d : PyData} (n : nameD d = false) (p : placeD d = false) (w : worthD d = false) (g : guardD d = false) (h : d ≠ .none) : ∀ r, partD r d = false := fun r => by
  unfold partD
  split
  · exact p
  split
  · exact w
  split
  · cases d <;> first | exact g | exact absurd rfl h
  · exact n
theorem sh_intB {i : Int} (h : i.natAbs < 5000) : Sh 1 0 (.int i) := ⟨rfl, decide_eq_true (by
  have : i.natAbs.log2 ≤ (5000 : Nat).log2 := by
    by_cases z : i.natAbs = 0
    · rw [z]; decide
    · exact (Nat.le_log2 (by decide)).mpr (Nat.le_trans (Nat.log2_self_le z) (Nat.le_of_lt h))
  exact Nat.lt_of_le_of_lt this (by decide)), decide_eq_true (PyData.shown_int_le (by omega)), by simp [PyData.depth], Nat.le_refl _⟩
theorem sh_bool {b : Bool} : Sh 1 0 (.bool b) := ⟨rfl, by cases b <;> rfl, by cases b <;> rfl, by simp [PyData.depth], Nat.le_refl _⟩
theorem nameS_ok {z : Str} (h : nameS z = true) : PyData.strOk z = true := by
  unfold nameS at h
  rw [Bool.and_eq_true, Bool.and_eq_true, decide_eq_true_eq, decide_eq_true_eq] at h
  refine low_ok fun c hc => ?_
  have := List.all_eq_true.mp h.2.2 c hc
  unfold lowC at this
  rw [Bool.and_eq_true, decide_eq_true_eq, decide_eq_true_eq] at this
  exact this
theorem sh_strO {z : Str} {b : Nat} (h : PyData.strOk z = true) (hb : z.length ≤ b) : Sh 1 b (.str z) := sh_str (canLay_iff.mpr (ok_iff.mp h)) hb
theorem sh_name {z : Str} (h : nameS z = true) : Sh 1 8 (.str z) := by
  refine sh_strO (nameS_ok h) ?_
  unfold nameS at h
  rw [Bool.and_eq_true, Bool.and_eq_true, decide_eq_true_eq, decide_eq_true_eq] at h
  exact h.2.1
/-- an item of a worth -/
theorem wd_it {d : PyData} (h : (nameD d || belowD 10 d) = true) : Sh 1 8 d ∧ scD d = true ∧ szD d = true ∧ noL d = true ∧ worthD d = false := by
  cases d with
  | str z =>
    have h' : nameS z = true := by simpa [nameD, belowD] using h
    exact ⟨sh_name h', rfl, nameS_sz h', rfl, rfl⟩
  | int i =>
    have h' : 0 ≤ i ∧ i < 10 := by simpa [nameD, belowD] using h
    exact ⟨(sh_intB (by omega)).mono (by decide) (by decide), rfl, rfl, rfl, rfl⟩
  | _ => cases h
theorem wd_ex {d : PyData} (h : worthD d = true) : ∃ ws, d = .tuple ws ∧ 1 ≤ ws.length ∧ ws.length ≤ 3 ∧ ∀ x ∈ ws, (nameD x || belowD 10 x) = true := by
  cases d with
  | tuple ws =>
    have h' : (decide (1 ≤ ws.length) && (decide (ws.length ≤ 3) && ws.all fun d => nameD d || belowD 10 d)) = true := h
    rw [Bool.and_eq_true, Bool.and_eq_true, decide_eq_true_eq, decide_eq_true_eq, List.all_eq_true] at h'
    exact ⟨ws, rfl, h'.1, h'.2.1, h'.2.2⟩
  | _ => cases h
theorem szAll_of : ∀ {ds : List PyData}, (∀ d ∈ ds, szD d = true) → szAll ds = true
  | [], _ => rfl
  | d :: r, h => by
    show (szD d && szAll r) = true
    rw [h d List.mem_cons_self, szAll_of fun x hx => h x (List.mem_cons_of_mem _ hx)]; rfl
theorem noLAll_of : ∀ {ds : List PyData}, (∀ d ∈ ds, noL d = true) → noLAll ds = true
  | [], _ => rfl
  | d :: r, h => by
    show (noL d && noLAll r) = true
    rw [h d List.mem_cons_self, noLAll_of fun x hx => h x (List.mem_cons_of_mem _ hx)]; rfl
theorem wd_sh {ws : List PyData} (hw : ws.length ≤ 3) (h : ∀ x ∈ ws, (nameD x || belowD 10 x) = true) : Sh 2 27 (.tuple ws) := (sh_tup (k := 1) (b := 8) fun d hd => (wd_it (h d hd)).1).mono (by decide) (by omega)
/-- no part: a tuple of other many items -/
theorem oddp_tup {ds : List PyData} (h2 : (ds.length == 2 && ds.all nameD) = false) (hw : worthD (.tuple ds) = false) (hg : guardD (.tuple ds) = false) : ∀ r, partD r (.tuple ds) = false := no_part rfl h2 hw hg (fun z => nomatch z)
theorem guard_sc {ds : List PyData} (h : ∀ d ∈ ds, worthD d = false) : guardD (.tuple ds) = false := by
  by_cases l3 : ds.length = 3
  · obtain ⟨a, b, c, rfl⟩ := three l3
    rw [gd3, h c (by simp), Bool.and_false, Bool.and_false]
  · exact guardD_three l3
theorem sgOk_sc {ds : List PyData} (h : ∀ d ∈ ds, scD d = true) : sgOk (.tuple ds) := by
  by_cases l3 : ds.length = 3
  · obtain ⟨a, b, c, rfl⟩ := three l3
    exact fun _ => h b (by simp)
  · unfold sgOk
    split
    · next e => cases e; exact absurd rfl l3
    · trivial
theorem oddp_sc {d : PyData} (sc : scD d = true) (n : nameD d = false) (h : d ≠ .none) (sz : szD d = true) (sh : Sh 6 200 d) : OddP d :=
  ⟨no_part n (by cases d <;> first | exact n | cases sc) (by cases d <;> first | rfl | cases sc) (by cases d <;> first | rfl | cases sc) h, (by cases d <;> first | trivial | cases sc), sz, sh⟩
theorem oddp_lst {ds : List PyData} (sz : szAll ds = true) (sh : Sh 6 200 (.list ds)) : OddP (.list ds) :=
  ⟨no_part rfl rfl rfl rfl (fun z => nomatch z), trivial, sz, sh⟩
/-- name, sign and worth of which one is wrong -/
theorem oddp_three {l s w : PyData} (h : guardD (.tuple [l, s, w]) = false) (sc : scD s = true) (hw : worthD (.tuple [l, s, w]) = false) (z1 : szD l = true) (z2 : szD s = true) (z3 : szD w = true) (s1 : Sh 5 30 l) (s2 : Sh 5 30 s) (s3 : Sh 5 65 w) : OddP (.tuple [l, s, w]) := by
  refine ⟨oddp_tup rfl hw h, fun _ => sc, ?_, ?_⟩
  · show (szD l && (szD s && (szD w && true))) = true
    rw [z1, z2, z3]; rfl
  · refine (sh_tup (k := 5) (b := 65) fun d hd => ?_).mono (by decide) (by show (65 + 1) * 3 ≤ 200; decide)
    rcases List.mem_cons.mp hd with rfl | hd
    · exact s1.mono (by decide) (by decide)
    rcases List.mem_cons.mp hd with rfl | hd
    · exact s2.mono (by decide) (by decide)
    · rw [List.mem_singleton.mp hd]; exact s3
theorem eq_sgn : nameD (.str "=") = false ∧ belowD 10 (.str "=") = false := by decide +kernel
theorem worth_mid {l s w : PyData} (h : nameD s = false) (b : belowD 10 s = false) : worthD (.tuple [l, s, w]) = false := by
  show (decide (1 ≤ [l, s, w].length) && (decide ([l, s, w].length ≤ 3) && [l, s, w].all fun d => nameD d || belowD 10 d)) = false
  simp [h, b]
theorem worth_last {l s w : PyData} (h : nameD w = false) (b : belowD 10 w = false) : worthD (.tuple [l, s, w]) = false := by
  show (decide (1 ≤ [l, s, w].length) && (decide ([l, s, w].length ≤ 3) && [l, s, w].all fun d => nameD d || belowD 10 d)) = false
  simp [h, b]
/-- any data of a row -/
theorem dq_pick {H : Hp} {us : List V} {ds : List PyData} {r : Int} (h : DqAll H us ds) (r0 : 0 ≤ r) (r1 : r < (ds.length : Nat)) : ∃ v d, atI us r = some v ∧ d ∈ ds ∧ Dq H v d := by
  have hl := h.len
  have e := List.getElem?_eq_getElem (l := us) (i := r.toNat) (by omega)
  obtain ⟨d, ed, hd⟩ := h.get e
  refine ⟨_, d, ?_, List.mem_of_getElem? ed, hd⟩
  have := atI_nat e
  rwa [Int.toNat_of_nonneg r0] at this
theorem dq_take {H : Hp} : ∀ {us : List V} {ds : List PyData} (i : Nat), DqAll H us ds → DqAll H (us.take i) (ds.take i)
  | _, _, 0, _ => .nil
  | _, _, i + 1, .nil => .nil
  | _, _, i + 1, .cons a t => .cons a (dq_take i t)
theorem dq_drop {H : Hp} : ∀ {us : List V} {ds : List PyData} (i : Nat), DqAll H us ds → DqAll H (us.drop i) (ds.drop i)
  | _, _, 0, h => h
  | _, _, i + 1, .nil => .nil
  | _, _, i + 1, .cons a t => dq_drop i t
theorem newL {S : List Addr} {H : Hp} {p : Addr} {us : List V} {ds : List PyData} (hS : Std S H) (np : H p = none) (h : DqAll (wo S H) us ds) : Dq (wo S (upd H p (.lst us))) (.ref p) (.list ds) := .lst (wo_new hS.ex np) (DqAll.kp (wo_kp (Kp.new np : Kp [] H _).of0) h)
theorem newT {S : List Addr} {H : Hp} {p : Addr} {us : List V} {ds : List PyData} (hS : Std S H) (np : H p = none) (h : DqAll (wo S H) us ds) : Dq (wo S (upd H p (.tup us))) (.ref p) (.tuple ds) := .tup (wo_new hS.ex np) (DqAll.kp (wo_kp (Kp.new np : Kp [] H _).of0) h)
theorem Std.new {S : List Addr} {H : Hp} {p : Addr} {o : HO} (hS : Std S H) (np : H p = none) : Std S (upd H p o) := hS.kp (Kp.new np)
theorem noL_woA {S : List Addr} {H H' : Hp} {vs : List V} {ds : List PyData} (k : Kp S H H') (hS : Std S H) (h : DqAll H vs ds) (n : noLAll ds = true) : DqAll (wo S H') vs ds := DqAll.kpS (k.trans kp_wo) hS h n
theorem oddp_many {ds : List PyData} (l4 : 4 ≤ ds.length) (sz : ∀ d ∈ ds, szD d = true) (sh : ∀ d ∈ ds, Sh 5 27 d) (l8 : ds.length ≤ 8 ∧ (ds.length ≤ 4 ∨ ∀ d ∈ ds, Sh 1 8 d)) : OddP (.tuple ds) := by
  refine ⟨oddp_tup ?_ ?_ (guardD_three (by omega)), ?_, szAll_of sz, ?_⟩
  · rw [beq_eq_false_iff_ne.mpr (by omega)]; rfl
  · show (_ && (decide (ds.length ≤ 3) && _)) = false
    rw [decide_eq_false (show ¬ ds.length ≤ 3 by omega)]; simp
  · unfold sgOk
    split
    · next e => cases e; simp at l4
    · trivial
  · obtain ⟨l8, h | h⟩ := l8
    · exact (sh_tup sh).mono (by decide) (by omega)
    · exact (sh_tup h).mono (by decide) (by omega)
theorem signs_no : ∀ d ∈ ([.str "==", .str "<=", .str ">", .str "", .str "is", .int 0, .none, .str "!="] : List PyData), sgD d = false ∧ scD d = true ∧ szD d = true := by
  intro d hd
  simp only [List.mem_cons, List.not_mem_nil, or_false] at hd
  rcases hd with rfl | rfl | rfl | rfl | rfl | rfl | rfl | rfl <;> exact ⟨by decide +kernel, rfl, by decide +kernel⟩
theorem signs_sh : ∀ d ∈ ([.str "==", .str "<=", .str ">", .str "", .str "is", .int 0, .none, .str "!="] : List PyData), Sh 5 30 d := by
  intro d hd
  simp only [List.mem_cons, List.not_mem_nil, or_false] at hd
  have st : ∀ z : Str, PyData.strOk z = true → z.length ≤ 8 → Sh 5 30 (.str z) := fun z h l => (sh_strO h l).mono (by decide) (by decide)
  rcases hd with rfl | rfl | rfl | rfl | rfl | rfl | rfl | rfl
  · exact st _ (by decide +kernel) (by decide +kernel)
  · exact st _ (by decide +kernel) (by decide +kernel)
  · exact st _ (by decide +kernel) (by decide +kernel)
  · exact st _ (by decide +kernel) (by decide +kernel)
  · exact st _ (by decide +kernel) (by decide +kernel)
  · exact (sh_intB (by decide)).mono (by decide) (by decide)
  · exact sh_none.mono (by decide) (by decide)
  · exact st _ (by decide +kernel) (by decide +kernel)
theorem it8 {n : Nat} (h : n ≤ 8) : n ≤ sizeLine := by rw [sizeLine_eq]; omega
structure BtLL (mg : Str → Option Value) : Prop where
  b_len : mg "len" = none
  b_list : mg "list" = none
section
variable {P : Program} {w : World} {K : PySem.W.Frag} {mg : Str → Option Value} {base : Heap}
/-- what is no part of a step -/
def spOddP : Sp := fun vs H Q _ => ∃ (a nl : Addr) (zs : List Str) (S : List Addr), vs = [.ref a, .ref nl] ∧ RowAt H a ∧ NmsAt H nl zs ∧ a ≠ nl ∧ a ∈ S ∧ Std S H ∧ ∀ (v : V) (d : PyData) (H' : Hp), Dq (wo S H') v d → OddP d → RowAt H' a → Kp [a] H H' → Q v H'
theorem ok_law_odd_part {f : Addr} {fd : FuncData} (D : Df K mg "_law_odd_part" s_law_odd_part ["_law_row_here", "_law_names_here"] f fd) (T : BtLL mg) {fr : Addr} {fdr : FuncData} (D_law_draw : Df K mg "_law_draw" s_law_draw ["_law_row_here", "_law_many"] fr fdr) (G_law_draw : FnOk P w K mg base CX0 1 fr fdr ["_law_row_here", "_law_many"] spDraw)
    {fw : Addr} {fdw : FuncData} (D_law_worth : Df K mg "_law_worth" s_law_worth ["_law_row_here", "_law_names_here"] fw fdw) (G_law_worth : FnOk P w K mg base CX0 2 fw fdw ["_law_row_here", "_law_names_here"] (spDrawn fun d => worthD d = true ∧ szD d = true))
    {fn : Addr} {fdn : FuncData} (D_law_odd_number : Df K mg "_law_odd_number" s_law_odd_number ["_law_row_here", "_law_most"] fn fdn) (G_law_odd_number : FnOk P w K mg base CX0 2 fn fdn ["_law_row_here", "_law_most"] spOddN)
    {ft : Addr} {fdt : FuncData} (D_law_odd_text : Df K mg "_law_odd_text" s_law_odd_text ["_law_row_here"] ft fdt) (G_law_odd_text : FnOk P w K mg base CX0 3 ft fdt ["_law_row_here"] spOddT) : FnOk P w K mg base CX0 4 f fd ["_law_row_here", "_law_names_here"] spOddP := by
  refine D.F.ok sc_law_odd_part (fun vs H Q E h => ?_) (fun cdv A outer s H vs Q E hr h => ?_)
  · obtain ⟨_, _, _, _, rfl, _⟩ := h
    rfl
  · obtain ⟨a, nl, zs, S, rfl, ha, hn, ne, aS, hS, q⟩ := h
    refine ⟨_, (pss_cons (ps_set (i := 2) sc_law_odd_part.nd rfl (Or.inl rfl) (pe_call G_law_draw (hr.mono (by decide)) rfl D_law_draw.g D_law_draw.F.kp D_law_draw.b .nil pass0 (pa_cons (pv 0) (pa_cons pe_int pa_nil))))
      (pss_cons (ps_set (i := 3) sc_law_odd_part.nd rfl (Or.inl rfl) (pe_ix (r := rIxL K) ix_list (pv 1) (pe_call G_law_draw (hr.mono (by decide)) rfl D_law_draw.g D_law_draw.F.kp D_law_draw.b .nil pass0 (pa_cons (pv 0) (pa_cons (pe_callB (id := "len") (r := Evl.rLenS K) call_len_seq (by rfl) T.b_len PySem.boot_len (pa_cons (pv 1) pa_nil)) pa_nil))) (fun _ _ => rfl)))
      (pss_cons (ps_set (i := 4) sc_law_odd_part.nd rfl (Or.inl rfl) (pe_call G_law_worth (hr.mono (by decide)) rfl D_law_worth.g D_law_worth.F.kp D_law_worth.b .nil pass0 (pa_cons (pv 0) (pa_cons (pv 1) pa_nil))))
      (pss_cons (ps_set (i := 5) sc_law_odd_part.nd rfl (Or.inl rfl) (pe_call G_law_draw (hr.mono (by decide)) rfl D_law_draw.g D_law_draw.F.kp D_law_draw.b .nil pass0 (pa_cons (pv 0) (pa_cons (pe_callB (id := "len") (r := Evl.rLenS K) call_len_seq (by rfl) T.b_len PySem.boot_len (pa_cons (pv 4) pa_nil)) pa_nil))))
      (pss_cons (ps_set (i := 6) sc_law_odd_part.nd rfl (Or.inl rfl) (pe_op op_catA (pe_op op_catA (pe_slice sl_tupA (pv 4) po_none (po_some (pv 5))) (pe_tup (pa_cons (pe_call G_law_odd_number (hr.mono (by decide)) rfl D_law_odd_number.g D_law_odd_number.F.kp D_law_odd_number.b .nil pass0 (pa_cons (pv 0) (pa_cons pe_int pa_nil))) pa_nil))) (pe_slice sl_tupA (pv 4) (po_some (pe_op op_add (pv 5) pe_int)) po_none)))
      (pss_cons (ps_if (pt_cmpR op_eq (pv 2) pe_int (nomark _)) (pss_one (ps_ret (pe_call G_law_odd_text (hr.mono (by decide)) rfl D_law_odd_text.g D_law_odd_text.F.kp D_law_odd_text.b .nil pass0 (pa_cons (pv 0) pa_nil)))) pss_nil)
      (pss_cons (ps_if (pt_cmpR op_eq (pv 2) pe_int (nomark _)) (pss_one (ps_ret (pe_ix (r := rIxL K) ix_list (pe_lst (pa_cons pe_bl (pa_cons pe_int (pa_cons pe_int (pa_cons (pe_lst pa_nil) (pa_cons (pe_tup pa_nil) (pa_cons (pe_lst (pa_cons (pv 3) pa_nil)) (pa_cons pe_bl (pa_cons (pe_callTy call_list_of (by rfl) T.b_list (by decide +kernel) (pa_cons (pv 4) pa_nil)) pa_nil))))))))) (pe_call G_law_draw (hr.mono (by decide)) rfl D_law_draw.g D_law_draw.F.kp D_law_draw.b .nil pass0 (pa_cons (pv 0) (pa_cons pe_int pa_nil))) (fun _ _ => rfl)))) pss_nil)
      (pss_cons (ps_if (pt_cmpR op_eq (pv 2) pe_int (nomark _)) (pss_one (ps_ret (pv 6))) pss_nil)
      (pss_cons (ps_if (pt_cmpR op_eq (pv 2) pe_int (nomark _)) (pss_one (ps_ret (pe_tup (pa_cons (pv 3) (pa_cons (pe_ix (r := rIxL K) ix_list (pe_lst (pa_cons pe_str (pa_cons pe_str (pa_cons pe_str (pa_cons pe_str (pa_cons pe_str (pa_cons pe_int (pa_cons pe_non (pa_cons pe_str pa_nil))))))))) (pe_call G_law_draw (hr.mono (by decide)) rfl D_law_draw.g D_law_draw.F.kp D_law_draw.b .nil pass0 (pa_cons (pv 0) (pa_cons pe_int pa_nil))) (fun _ _ => rfl)) (pa_cons (pv 4) pa_nil)))))) pss_nil)
      (pss_cons (ps_if (pt_cmpR op_eq (pv 2) pe_int (nomark _)) (pss_one (ps_ret (pe_tup (pa_cons (pv 3) (pa_cons pe_str (pa_cons (pe_ix (r := rIxL K) ix_list (pe_lst (pa_cons (pv 6) (pa_cons (pe_tup pa_nil) (pa_cons (pe_callTy call_list_of (by rfl) T.b_list (by decide +kernel) (pa_cons (pv 4) pa_nil)) (pa_cons (pv 3) (pa_cons pe_int (pa_cons pe_non (pa_cons (pe_op op_catA (pv 4) (pe_tup (pa_cons pe_int (pa_cons pe_int (pa_cons pe_int pa_nil))))) (pa_cons (pe_tup (pa_cons (pv 4) pa_nil)) pa_nil))))))))) (pe_call G_law_draw (hr.mono (by decide)) rfl D_law_draw.g D_law_draw.F.kp D_law_draw.b .nil pass0 (pa_cons (pv 0) (pa_cons pe_int pa_nil))) (fun _ _ => rfl)) pa_nil)))))) pss_nil)
      (pss_cons (ps_if (pt_cmpR op_eq (pv 2) pe_int (nomark _)) (pss_one (ps_ret (pe_op op_catA (pe_op op_catA (pv 4) (pv 4)) (pe_tup (pa_cons pe_int (pa_cons (pv 3) pa_nil)))))) pss_nil)
      (pss_cons (ps_if (pt_cmpR op_eq (pv 2) pe_int (nomark _)) (pss_one (ps_ret (pe_tup (pa_cons (pv 3) (pa_cons pe_str (pa_cons (pv 4) (pa_cons pe_int pa_nil))))))) pss_nil)
      (pss_one (ps_ret (pe_tup (pa_cons (pe_call G_law_odd_text (hr.mono (by decide)) rfl D_law_odd_text.g D_law_odd_text.F.kp D_law_odd_text.b .nil pass0 (pa_cons (pv 0) pa_nil)) (pa_cons pe_str (pa_cons (pv 4) pa_nil)))))))))))))))))), ?_⟩
    try simp (maxSteps := 1000000) only [tSeq, tIfS, tTest, tOp, tUn, tCB, tCons, tNil, tVar, tC, rI0, rI, rU, rEq, rNe, tRet, tRetN, tAsg, gName, gSub, tBM, tBM0, tNext, tB, tNot, tAnd, tOr, tIf, tCall, tDrop, tBreak, tCont, L2.start, tDGet, sDPut, tTup, tLst, tDNewK, tRevL, rCat, rAppend, rPop, rSetL, tAndV, tOrV, tNotV, tSl, tPart, tNoPart, tM1, gTup, gCons, gNil, cxK, cxnK, List.map_cons, List.map_nil, List.length_cons, List.length_nil, List.replicate, List.cons_append, List.nil_append, List.append_nil, List.set_cons_zero, List.set_cons_succ, List.getElem?_cons_zero, List.getElem?_cons_succ, Option.some.injEq, V.ref.injEq, V.int.injEq, V.str.injEq, V.bl.injEq, V.ty.injEq, exists_eq_left', exists_eq_left, exists_and_left, List.cons.injEq, and_true, true_and, sc_ii, sc_ss, sc_bb, sc_ni, sc_in, sc_is, sc_si, sc_nn, decide_true, decide_false, reduceCtorEq, Bool.false_eq_true, if_true, if_false, ite_true, ite_false, exists_const, eq_self, false_and, and_false, or_false, false_or, exists_false, Evl.rLenS, rSum, wipe, tYes, exists_eq, exists_eq', rIxL, rIxT, rIxS, exists_and_right, gt_iff_lt, not_true_eq_false, not_false_eq_true, Bool.not_true, Bool.not_false, decide_eq_true_eq, Nat.reduceSub, Nat.reduceAdd, List.append_assoc, tChain, tDIn, tDNotIn, sDDel, tAug, ipI]
    refine ⟨a, 8, rfl, ha, by decide, fun way H1 w0 w8 a1 k1 => ?_⟩
    dsimp only
    have hn1 := hn.kpa ne k1
    have hS1 := hS.kpa k1 a1
    refine ⟨_, .inl (sq_l hn1.1), a, (zs.length : Nat), by rw [List.length_map], a1, by have := hn1.2.1; omega, fun y H2 y0 y1 a2 k2 => ?_⟩
    have hn2 := hn1.kpa ne k2
    have hS2 := hS1.kpa k2 a2
    obtain ⟨z, ez, gz⟩ := nm_ix (K := K) hn2 y0 y1
    refine ⟨_, y, rfl, sq_l hn2.1, _, ez, a, nl, zs, rfl, a2, hn2, ne, fun wv wd H3 hwv hwd wn a3 k3 => ?_⟩
    have hS3 := hS2.kpa k3 a3
    obtain ⟨ws, rfl, ws1, ws3, hws⟩ := wd_ex hwd.1
    cases hwv with
    | @tup b us _ e hd =>
    have e3 : H3 b = some (.tup us) := wo_to _ _ not0 e
    have hd3 : DqAll H3 us ws := DqAll.kp wo_to hd
    have ul : us.length = ws.length := hd.len
    refine ⟨b, rfl, us, .inr (sq_t e3), a, (us.length : Nat), rfl, a3, by omega, fun at' H4 at0 at1 a4 k4 => ?_⟩
    have ne4 : b ≠ a := fun z => by
      obtain ⟨ns, en, _⟩ := a3
      rw [← z, e3] at en; cases en
    have e4 := k4 _ _ (not1 ne4) e3
    obtain ⟨i, rfl⟩ : ∃ i : Nat, at' = i := ⟨at'.toNat, (Int.toNat_of_nonneg at0).symm⟩
    refine ⟨(i : Int), rfl, slA_to (k := i) rfl e4 fun r1 H5 h5 k5 => ?_⟩
    have a5 := a4.kp0 k5
    have e5 := k5 _ _ not0 e4
    have nr1 : r1 ≠ a := fun z => by
      obtain ⟨ns, en, _⟩ := a5
      rw [← z, h5] at en; cases en
    refine ⟨a, 9, rfl, a5, by decide, by decide, fun nv nd H6 hnv nb nn nsc nsz nnl nst nab a6 k6 => ⟨it8 (by decide), fun p np => ?_⟩⟩
    have nb : belowD 10 nd = false := nb
    have h6 := k6 _ _ (not1 nr1) h5
    have e6 := k6 _ _ (not1 ne4) e5
    have kp := (Kp.new np : Kp [] H6 (upd H6 p (.tup [nv])))
    refine catA_use (kp _ _ not0 h6) upd_same (by simp only [List.length_take, List.length_cons, List.length_nil]; omega) fun r2 H7 h7 k7 => ⟨(i : Int), rfl, slA_from (k := i + 1) (by push_cast; rfl) ((kp.trans k7) _ _ not0 e6) fun r3 H8 h8 k8 => catA_use (k8 _ _ not0 h7) h8 (by simp only [List.length_append, List.length_take, List.length_drop, List.length_cons, List.length_nil]; omega) fun r4 H9 h9 k9 => ?_⟩
    have k69 : Kp [] H6 H9 := ((kp.trans k7).trans k8).trans k9
    have k39 : Kp [a] H3 H9 := ((k4.trans k5.of0).trans k6).trans k69.of0
    have k09 : Kp [a] H H9 := ((k1.trans k2).trans k3).trans k39
    have a9 := a6.kp0 k69
    have hS9 := hS3.kpa k39 a9
    have e9 := k39 _ _ (not1 ne4) e3
    have wA : ∀ H', Kp [a] H9 H' → DqAll (wo S H') us ws := fun H' k => noL_woA (kp_in (k39.trans k) aS) hS3 hd3 wn
    have wW : ∀ H', Kp [a] H9 H' → Dq (wo S H') (.ref b) (.tuple ws) := fun H' k => noL_wo (kp_in (k39.trans k) aS) hS3 (.tup e3 hd3) wn
    have wsc := fun x hx => (wd_it (hws x hx))
    have hss : ∀ x ∈ ws.take i ++ [nd] ++ ws.drop (i + 1), scD x = true ∧ szD x = true ∧ noL x = true ∧ worthD x = false ∧ Sh 1 8 x := fun x hx => by
      rcases List.mem_append.mp hx with hx | hx
      · rcases List.mem_append.mp hx with hx | hx
        · obtain ⟨h1, h2, h3, h4, h5⟩ := wsc x (List.mem_of_mem_take hx)
          exact ⟨h2, h3, h4, h5, h1⟩
        · rw [List.mem_singleton.mp hx]
          refine ⟨nsc, nsz, nnl, (by cases nd <;> first | rfl | cases nsc), ?_⟩
          cases hnv H with
          | int j => exact (sh_intB (by have := nab j rfl; omega)).mono (by decide) (by decide)
          | bl c => exact sh_bool.mono (by decide) (by decide)
          | non => exact sh_none.mono (by decide) (by decide)
          | str z => cases nst
          | _ => cases nsc
      · obtain ⟨h1, h2, h3, h4, h5⟩ := wsc x (List.mem_of_mem_drop hx)
        exact ⟨h2, h3, h4, h5, h1⟩
    have sl : (ws.take i ++ [nd] ++ ws.drop (i + 1)).length = ws.length := by
      simp only [List.length_append, List.length_take, List.length_drop, List.length_cons, List.length_nil]; omega
    have snm : nd ∈ ws.take i ++ [nd] ++ ws.drop (i + 1) := by simp
    have hd9 : DqAll H9 (us.take i ++ [nv] ++ us.drop (i + 1)) (ws.take i ++ [nd] ++ ws.drop (i + 1)) := DqAll.app (DqAll.app (dq_take i (DqAll.kpS k39 (fun b hb => by
      rw [List.mem_singleton.mp hb]
      obtain ⟨ns, en, _⟩ := a3
      exact ⟨_, en⟩) hd3 wn)) (.cons (hnv _) .nil)) (dq_drop (i + 1) (DqAll.kpS k39 (fun b hb => by
      rw [List.mem_singleton.mp hb]
      obtain ⟨ns, en, _⟩ := a3
      exact ⟨_, en⟩) hd3 wn))
    generalize ws.take i ++ [nd] ++ ws.drop (i + 1) = ss at hss sl snm hd9
    generalize us.take i ++ [nv] ++ us.drop (i + 1) = su at h9 hd9
    have sno : noLAll ss = true := noLAll_of fun x hx => (hss x hx).2.2.1
    have sW : ∀ H', Kp [a] H9 H' → Dq (wo S H') (.ref r4) (.tuple ss) := fun H' k => noL_wo (kp_in k aS) hS9 (.tup h9 hd9) sno
    have sbad : worthD (.tuple ss) = false := by
      cases c : worthD (.tuple ss) with
      | false => rfl
      | true =>
        obtain ⟨_, ez, _, _, h⟩ := wd_ex c
        cases ez
        have := h nd snm
        rw [nn, nb] at this; cases this
    have wsz : szAll ws = true := szAll_of fun x hx => (wsc x hx).2.2.1
    have ssz : szAll ss = true := szAll_of fun x hx => (hss x hx).2.1
    have wsh : Sh 2 27 (.tuple ws) := wd_sh ws3 hws
    have wshl : Sh 2 27 (.list ws) := (sh_lst (k := 1) (b := 8) fun d hd => (wsc d hd).1).mono (by decide) (by omega)
    have ssh : Sh 2 27 (.tuple ss) := (sh_tup (k := 1) (b := 8) fun d hd => (hss d hd).2.2.2.2).mono (by decide) (by omega)
    have zsh := sh_name gz
    have zsz := nameS_sz gz
    have rowS : ∀ H', RowAt H' a → Kp [a] H9 H' → Std S H' := fun H' r k => hS9.kpa k r
    have mv : ∀ {G G' : Hp} {v : V} {d : PyData}, Dq (wo S G) v d → Kp [a] G G' → Dq (wo S G') v d := fun h k => h.kp (wo_kp (kp_in k aS))
    refine ⟨rfl, ?_⟩
    split
    · exact ⟨a, rfl, a9, fun t H' nt lt okt a' k' => q _ (.str t) H' (.str t) (oddp_sc rfl nt (fun z => nomatch z) (decide_eq_true (by omega)) ((sh_strO okt lt).mono (by decide) (by decide))) a' (k09.trans k')⟩
    refine ⟨rfl, ?_⟩
    split
    · refine ⟨Nat.zero_le _, fun p1 n1 => ⟨Nat.zero_le _, fun p2 n2 => ⟨it8 (by decide), fun p3 n3 => ?_⟩⟩⟩
      have g1 := (Kp.new n1 : Kp [] H9 (upd H9 p1 (.lst [])))
      have s1 := hS9.new (o := .lst []) n1
      have d1 := newL hS9 n1 .nil
      generalize upd H9 p1 (.lst []) = G1 at g1 s1 d1 n2 n3 ⊢
      have g2 := (Kp.new n2 : Kp [] G1 (upd G1 p2 (.tup [])))
      have s2 := s1.new (o := .tup []) n2
      have d2 := newT s1 n2 .nil
      generalize upd G1 p2 (.tup []) = G2 at g2 s2 d2 n3 ⊢
      have g3 := (Kp.new n3 : Kp [] G2 (upd G2 p3 (.lst [.str z])))
      have s3 := s2.new (o := .lst [.str z]) n3
      have d3 := newL s2 n3 (.cons (.str z) .nil)
      generalize upd G2 p3 (.lst [.str z]) = G3 at g3 s3 d3 ⊢
      have g13 := (g1.trans g2).trans g3
      refine ⟨b, rfl, us, .inr (sq_t (g13 _ _ not0 e9)), fun p4 n4 => ⟨it8 (by decide), fun p5 n5 => ?_⟩⟩
      have g4 := (Kp.new n4 : Kp [] G3 (upd G3 p4 (.lst us)))
      have s4 := s3.new (o := .lst us) n4
      have d4 := newL s3 n4 (wA G3 g13.of0)
      generalize upd G3 p4 (.lst us) = G4 at g4 s4 d4 n5 ⊢
      have g5 := (Kp.new n5 : Kp [] G4 (upd G4 p5 (.lst [.bl true, .int 0, .int 9, .ref p1, .ref p2, .ref p3, .bl false, .ref p4])))
      have h5 : (upd G4 p5 (.lst [.bl true, .int 0, .int 9, .ref p1, .ref p2, .ref p3, .bl false, .ref p4])) p5 = some (.lst [.bl true, .int 0, .int 9, .ref p1, .ref p2, .ref p3, .bl false, .ref p4]) := upd_same
      generalize upd G4 p5 (.lst [.bl true, .int 0, .int 9, .ref p1, .ref p2, .ref p3, .bl false, .ref p4]) = G5 at g5 h5 ⊢
      have k95 : Kp [] H9 G5 := (g13.trans g4).trans g5
      have a5 := a9.kp0 k95
      have n5a : p5 ≠ a := Ne.symm ((a9.kp0 (g13.trans g4)).ne n5)
      refine ⟨a, 8, rfl, a5, by decide, fun r G6 r0 r8 a6 k6 => ?_⟩
      have all : DqAll (wo S G6) [.bl true, .int 0, .int 9, .ref p1, .ref p2, .ref p3, .bl false, .ref p4] [.bool true, .int 0, .int 9, .list [], .tuple [], .list [.str z], .bool false, .list ws] :=
        .cons (.bl true) (.cons (.int 0) (.cons (.int 9) (.cons (mv d1 (((g2.trans g3).trans g4).trans g5 |>.of0.trans k6)) (.cons (mv d2 ((g3.trans g4).trans g5 |>.of0.trans k6)) (.cons (mv d3 ((g4.trans g5).of0.trans k6)) (.cons (.bl false) (.cons (mv d4 (g5.of0.trans k6)) .nil)))))))
      obtain ⟨u, d, eu, hm, hu⟩ := dq_pick all r0 r8
      refine ⟨_, r, rfl, sq_l (k6 _ _ (not1 n5a) h5), u, eu, q u d G6 hu ?_ a6 ((k09.trans k95.of0).trans k6)⟩
      simp only [List.mem_cons, List.not_mem_nil, or_false] at hm
      rcases hm with rfl | rfl | rfl | rfl | rfl | rfl | rfl | rfl
      · exact oddp_sc rfl rfl (fun z => nomatch z) rfl (sh_bool.mono (by decide) (by decide))
      · exact oddp_sc rfl rfl (fun z => nomatch z) rfl ((sh_intB (by decide)).mono (by decide) (by decide))
      · exact oddp_sc rfl rfl (fun z => nomatch z) rfl ((sh_intB (by decide)).mono (by decide) (by decide))
      · exact oddp_lst rfl ((sh_lst (k := 1) (b := 1) (fun d hd => absurd hd List.not_mem_nil)).mono (by decide) (by decide))
      · exact ⟨oddp_tup rfl rfl rfl, trivial, rfl, (sh_tup (k := 1) (b := 1) (fun d hd => absurd hd List.not_mem_nil)).mono (by decide) (by decide)⟩
      · exact oddp_lst (szAll_of fun d hd => by rw [List.mem_singleton.mp hd]; exact zsz) ((sh_lst (k := 1) (b := 8) (fun d hd => by rw [List.mem_singleton.mp hd]; exact zsh)).mono (by decide) (by show (8 + 1) * 1 ≤ 200; decide))
      · exact oddp_sc rfl rfl (fun z => nomatch z) rfl (sh_bool.mono (by decide) (by decide))
      · exact oddp_lst wsz (wshl.mono (by decide) (by decide))
    refine ⟨rfl, ?_⟩
    split
    · exact q _ _ _ (sW H9 (Kp.refl _ _)) ⟨oddp_tup (by
        cases c : ss.length == 2 && ss.all nameD with
        | false => rfl
        | true =>
          rw [Bool.and_eq_true, List.all_eq_true] at c
          have := c.2 nd snm
          rw [nn] at this; cases this) sbad (guard_sc fun x hx => (hss x hx).2.2.2.1), sgOk_sc fun x hx => (hss x hx).1, ssz, ssh.mono (by decide) (by decide)⟩ a9 k09
    refine ⟨rfl, ?_⟩
    split
    · refine ⟨it8 (by decide), fun p1 n1 => ?_⟩
      have g1 := (Kp.new n1 : Kp [] H9 (upd H9 p1 (.lst [.str "==", .str "<=", .str ">", .str "", .str "is", .int 0, .non, .str "!="])))
      have h1 : (upd H9 p1 (.lst [.str "==", .str "<=", .str ">", .str "", .str "is", .int 0, .non, .str "!="])) p1 = some (.lst [.str "==", .str "<=", .str ">", .str "", .str "is", .int 0, .non, .str "!="]) := upd_same
      have na1 : p1 ≠ a := Ne.symm (a9.ne n1)
      generalize hG : upd H9 p1 (.lst [.str "==", .str "<=", .str ">", .str "", .str "is", .int 0, .non, .str "!="]) = G1 at g1 h1
      refine ⟨a, 8, rfl, a9.kp0 g1, by decide, fun r G2 r0 r8 a2' k2' => ?_⟩
      have all : DqAll G2 [.str "==", .str "<=", .str ">", .str "", .str "is", .int 0, .non, .str "!="] [.str "==", .str "<=", .str ">", .str "", .str "is", .int 0, .none, .str "!="] :=
        .cons (.str _) (.cons (.str _) (.cons (.str _) (.cons (.str _) (.cons (.str _) (.cons (.int 0) (.cons .non (.cons (.str _) .nil)))))))
      obtain ⟨u, d, eu, hm, hu⟩ := dq_pick all r0 r8
      obtain ⟨m1, m2, m3⟩ := signs_no d hm
      refine ⟨_, r, rfl, sq_l (k2' _ _ (not1 na1) h1), u, eu, it8 (by decide), fun p2 n2 => ?_⟩
      have k92 := g1.of0.trans k2'
      have hu' : Dq (wo S G2) u d := noL_wo (Kp.refl _ _) (rowS G2 a2' k92) hu (by cases d <;> first | rfl | cases m2)
      exact q _ _ _ (newT (rowS G2 a2' k92) n2 (.cons (.str z) (.cons hu' (.cons (wW G2 k92) .nil)))) (oddp_three (by rw [gd3, m1]; simp) m2 (worth_last rfl rfl) zsz m3 hwd.2 (zsh.mono (by decide) (by decide)) (signs_sh d hm) (wsh.mono (by decide) (by decide))) (a2'.kp0 (Kp.new n2)) ((k09.trans k92).trans (Kp.new n2).of0)
    refine ⟨rfl, ?_⟩
    split
    · refine ⟨Nat.zero_le _, fun p1 n1 => ⟨b, rfl, us, .inr (sq_t ((Kp.new n1 : Kp [] _ _) _ _ not0 e9)), fun p2 n2 => ⟨it8 (by decide), fun p3 n3 => ?_⟩⟩⟩
      have g1 := (Kp.new n1 : Kp [] H9 (upd H9 p1 (.tup [])))
      have s1 := hS9.new (o := .tup []) n1
      have d1 := newT hS9 n1 .nil
      generalize upd H9 p1 (.tup []) = G1 at g1 s1 d1 n2 n3 ⊢
      have g2 := (Kp.new n2 : Kp [] G1 (upd G1 p2 (.lst us)))
      have s2 := s1.new (o := .lst us) n2
      have d2 := newL s1 n2 (wA G1 g1.of0)
      generalize upd G1 p2 (.lst us) = G2 at g2 s2 d2 n3 ⊢
      have g3 := (Kp.new n3 : Kp [] G2 (upd G2 p3 (.tup [.int 1, .int 2, .int 3])))
      have s3 := s2.new (o := .tup [.int 1, .int 2, .int 3]) n3
      have h3 : (upd G2 p3 (.tup [.int 1, .int 2, .int 3])) p3 = some (.tup [.int 1, .int 2, .int 3]) := upd_same
      generalize upd G2 p3 (.tup [.int 1, .int 2, .int 3]) = G3 at g3 s3 h3 ⊢
      have g13 := (g1.trans g2).trans g3
      refine catA_use (g13 _ _ not0 e9) h3 (by simp only [List.length_cons, List.length_nil]; omega) fun c G4 h4 g4 => ⟨it8 (by decide), fun p4 n4 => ⟨it8 (by decide), fun p5 n5 => ?_⟩⟩
      have s4 := s3.kp g4
      have g14 := g13.trans g4
      have d4 : Dq (wo S G4) (.ref c) (.tuple (ws ++ [.int 1, .int 2, .int 3])) := .tup (tup_wo s4 h4) (DqAll.app (wA G4 g14.of0) (.cons (.int 1) (.cons (.int 2) (.cons (.int 3) .nil))))
      have g5 := (Kp.new n4 : Kp [] G4 (upd G4 p4 (.tup [.ref b])))
      have d5 := newT s4 n4 (.cons (wW G4 g14.of0) .nil)
      have s5 := s4.new (o := .tup [.ref b]) n4
      generalize upd G4 p4 (.tup [.ref b]) = G5 at g5 d5 s5 n5 ⊢
      have g6 := (Kp.new n5 : Kp [] G5 (upd G5 p5 (.lst [.ref r4, .ref p1, .ref p2, .str z, .int 0, .non, .ref c, .ref p4])))
      have h6 : (upd G5 p5 (.lst [.ref r4, .ref p1, .ref p2, .str z, .int 0, .non, .ref c, .ref p4])) p5 = some (.lst [.ref r4, .ref p1, .ref p2, .str z, .int 0, .non, .ref c, .ref p4]) := upd_same
      generalize upd G5 p5 (.lst [.ref r4, .ref p1, .ref p2, .str z, .int 0, .non, .ref c, .ref p4]) = G6 at g6 h6 ⊢
      have g56 := g5.trans g6
      have k96 : Kp [] H9 G6 := g14.trans g56
      have a5 := a9.kp0 (g14.trans g5)
      have n5a : p5 ≠ a := Ne.symm (a5.ne n5)
      refine ⟨a, 8, rfl, a5.kp0 g6, by decide, fun r G7 r0 r8 a7 k7 => ?_⟩
      have k97 := k96.of0.trans k7
      have all : DqAll (wo S G7) [.ref r4, .ref p1, .ref p2, .str z, .int 0, .non, .ref c, .ref p4] [.tuple ss, .tuple [], .list ws, .str z, .int 0, .none, .tuple (ws ++ [.int 1, .int 2, .int 3]), .tuple [.tuple ws]] :=
        .cons (sW G7 k97) (.cons (mv d1 ((((g2.trans g3).trans g4).trans g56).of0.trans k7)) (.cons (mv d2 (((g3.trans g4).trans g56).of0.trans k7)) (.cons (.str z) (.cons (.int 0) (.cons .non (.cons (mv d4 (g56.of0.trans k7)) (.cons (mv d5 (g6.of0.trans k7)) .nil)))))))
      obtain ⟨u, d, eu, hm, hu⟩ := dq_pick all r0 r8
      refine ⟨_, r, rfl, sq_l (k7 _ _ (not1 n5a) h6), u, eu, it8 (by decide), fun p8 n8 => ?_⟩
      have good : worthD d = false ∧ szD d = true ∧ Sh 5 65 d := by
        have s3' : szAll (ws ++ [.int 1, .int 2, .int 3]) = true := szAll_of fun x hx => by
          rcases List.mem_append.mp hx with hx | hx
          · exact (wsc x hx).2.2.1
          · simp only [List.mem_cons, List.not_mem_nil, or_false] at hx
            rcases hx with rfl | rfl | rfl <;> rfl
        have sh3 : Sh 2 54 (.tuple (ws ++ [.int 1, .int 2, .int 3])) := (sh_tup (k := 1) (b := 8) fun x hx => by
          rcases List.mem_append.mp hx with hx | hx
          · exact (wsc x hx).1
          · simp only [List.mem_cons, List.not_mem_nil, or_false] at hx
            rcases hx with rfl | rfl | rfl <;> exact (sh_intB (by decide)).mono (by decide) (by decide)).mono (by decide) (by simp only [List.length_append, List.length_cons, List.length_nil]; omega)
        simp only [List.mem_cons, List.not_mem_nil, or_false] at hm
        rcases hm with rfl | rfl | rfl | rfl | rfl | rfl | rfl | rfl
        · exact ⟨sbad, ssz, ssh.mono (by decide) (by decide)⟩
        · exact ⟨rfl, rfl, (sh_tup (k := 1) (b := 1) (fun d hd => absurd hd List.not_mem_nil)).mono (by decide) (by decide)⟩
        · exact ⟨rfl, wsz, wshl.mono (by decide) (by decide)⟩
        · exact ⟨rfl, zsz, zsh.mono (by decide) (by decide)⟩
        · exact ⟨rfl, rfl, (sh_intB (by decide)).mono (by decide) (by decide)⟩
        · exact ⟨rfl, rfl, sh_none.mono (by decide) (by decide)⟩
        · refine ⟨?_, s3', sh3.mono (by decide) (by decide)⟩
          show (_ && (decide ((ws ++ [.int 1, .int 2, .int 3] : List PyData).length ≤ 3) && _)) = false
          rw [decide_eq_false (show ¬ (ws ++ [.int 1, .int 2, .int 3] : List PyData).length ≤ 3 by rw [List.length_append]; simp only [List.length_cons, List.length_nil]; omega)]; simp
        · exact ⟨rfl, by show (szAll ws && true) = true; rw [wsz]; rfl, (sh_tup (k := 2) (b := 27) (fun d hd => by rw [List.mem_singleton.mp hd]; exact wsh)).mono (by decide) (by show 28 * 1 ≤ 65; decide)⟩
      have s7 := rowS G7 a7 k97
      exact q _ _ _ (newT s7 n8 (.cons (.str z) (.cons (.str _) (.cons hu .nil)))) (oddp_three (by rw [gd3, good.1]; simp) rfl (worth_mid eq_sgn.1 eq_sgn.2) zsz (by decide +kernel) good.2.1 (zsh.mono (by decide) (by decide)) ((sh_strO (by decide +kernel) (by decide +kernel) : Sh 1 8 _).mono (by decide) (by decide)) good.2.2) (a7.kp0 (Kp.new n8)) ((k09.trans k97).trans (Kp.new n8).of0)
    refine ⟨rfl, ?_⟩
    split
    · refine catA_use e9 e9 (by omega) fun r5 G1 h1 g1 => ⟨it8 (by decide), fun p2 n2 => ?_⟩
      have g2 := (Kp.new n2 : Kp [] G1 (upd G1 p2 (.tup [.int 0, .str z])))
      refine catA_use (g2 _ _ not0 h1) upd_same (by simp only [List.length_append, List.length_cons, List.length_nil]; omega) fun r6 G3 h3 g3 => ?_
      have g13 := (g1.trans g2).trans g3
      have s3 := hS9.kp g13
      have it : ∀ x ∈ ws ++ ws ++ [.int 0, .str z], szD x = true ∧ Sh 1 8 x := fun x hx => by
        rcases List.mem_append.mp hx with hx | hx
        · have hx : x ∈ ws := by rcases List.mem_append.mp hx with hx | hx <;> exact hx
          exact ⟨(wsc x hx).2.2.1, (wsc x hx).1⟩
        · simp only [List.mem_cons, List.not_mem_nil, or_false] at hx
          rcases hx with rfl | rfl
          · exact ⟨rfl, (sh_intB (by decide)).mono (by decide) (by decide)⟩
          · exact ⟨zsz, zsh⟩
      have len : (ws ++ ws ++ [.int 0, .str z] : List PyData).length = ws.length + ws.length + 2 := by simp only [List.length_append, List.length_cons, List.length_nil]
      exact q _ _ _ (.tup (tup_wo s3 h3) (DqAll.app (DqAll.app (wA G3 g13.of0) (wA G3 g13.of0)) (.cons (.int 0) (.cons (.str z) .nil)))) (oddp_many (by omega) (fun d hd => (it d hd).1) (fun d hd => (it d hd).2.mono (by decide) (by decide)) ⟨by omega, .inr fun d hd => (it d hd).2⟩) (a9.kp0 g13) (k09.trans g13.of0)
    refine ⟨rfl, ?_⟩
    split
    · refine ⟨it8 (by decide), fun p1 n1 => ?_⟩
      have it : ∀ d ∈ ([.str z, .str "=", .tuple ws, .int 0] : List PyData), szD d = true ∧ Sh 5 27 d := fun d hd => by
        simp only [List.mem_cons, List.not_mem_nil, or_false] at hd
        rcases hd with rfl | rfl | rfl | rfl
        · exact ⟨zsz, zsh.mono (by decide) (by decide)⟩
        · exact ⟨by decide +kernel, (sh_strO (by decide +kernel) (by decide +kernel) : Sh 1 8 _).mono (by decide) (by decide)⟩
        · exact ⟨wsz, wsh.mono (by decide) (by decide)⟩
        · exact ⟨rfl, (sh_intB (by decide)).mono (by decide) (by decide)⟩
      exact q _ _ _ (newT hS9 n1 (.cons (.str z) (.cons (.str _) (.cons (wW H9 (Kp.refl _ _)) (.cons (.int 0) .nil))))) (oddp_many (Nat.le_refl 4) (fun d hd => (it d hd).1) (fun d hd => (it d hd).2) ⟨by show 4 ≤ 8; decide, .inl (Nat.le_refl 4)⟩) (a9.kp0 (Kp.new n1)) (k09.trans (Kp.new n1).of0)
    · refine ⟨a, rfl, a9, fun t G1 nt lt okt a1' g1 => ⟨it8 (by decide), fun p2 n2 => ?_⟩⟩
      have s1 := rowS G1 a1' g1
      exact q _ _ _ (newT s1 n2 (.cons (.str t) (.cons (.str _) (.cons (wW G1 g1) .nil)))) (oddp_three (by rw [gd3]; rw [show nameD (.str t) = false from nt]; rfl) rfl (worth_mid eq_sgn.1 eq_sgn.2) (decide_eq_true (by omega)) (by decide +kernel) wsz ((sh_strO okt lt).mono (by decide) (by decide)) ((sh_strO (by decide +kernel) (by decide +kernel) : Sh 1 8 _).mono (by decide) (by decide)) (wsh.mono (by decide) (by decide))) (a1'.kp0 (Kp.new n2)) ((k09.trans g1).trans (Kp.new n2).of0)
end
end My

set_option Elab.async false
set_option linter.all false
set_option maxRecDepth 100000
set_option maxHeartbeats 4000000
namespace My
open PySem L2 NdefX
abbrev s_law_spoilt : Stmt := top 37
theorem sc_law_spoilt : FnScope ["_law_row_here", "_law_step_here", "_law_names_here", "_law_way", "_law_at", "_law_odd"] ["_law_row_here", "_law_step_here", "_law_names_here"] (defScope s_law_spoilt) := ⟨rfl, rfl, rfl, by decide +kernel, rfl, by decide +kernel, by decide +kernel⟩
/-- what is no step -/
structure BadSt (d : PyData) : Prop where
  no : stepAny d = false
  ok : okA d
  sz : szD d = true
  sh : Sh 7 1407 d
theorem sign_sh {z : Str} (h : signS z = true) : Sh 1 8 (.str z) ∧ szD (.str z) = true := by
  have h' : z = Str.ofString "=" ∨ z = Str.ofString "!" ∨ z = Str.ofString "<" := by
    unfold signS at h
    rcases (show (("=" == z) || (("!" == z) || (("<" == z) || false))) = true from h) |> (fun h => by simpa [Bool.or_eq_true, beq_iff_eq] using h) with h | h | h
    · exact .inl h.symm
    · exact .inr (.inl h.symm)
    · exact .inr (.inr h.symm)
  rcases h' with rfl | rfl | rfl
  · exact ⟨sh_strO (by decide +kernel) (by decide +kernel), by decide +kernel⟩
  · exact ⟨sh_strO (by decide +kernel) (by decide +kernel), by decide +kernel⟩
  · exact ⟨sh_strO (by decide +kernel) (by decide +kernel), by decide +kernel⟩
theorem name_sh {d : PyData} (h : nameD d = true) : Sh 1 8 d := by
  cases d with
  | str z => exact sh_name h
  | _ => cases h
theorem part_sh {r : Str} {d : PyData} (h : partD r d = true) : Sh 6 200 d := by
  unfold partD at h
  split at h
  · cases d with
    | tuple ds =>
      have h' : (ds.length == 2 && ds.all nameD) = true := h
      rw [Bool.and_eq_true, beq_iff_eq, List.all_eq_true] at h'
      exact (sh_tup (k := 1) (b := 8) fun e he => name_sh (h'.2 e he)).mono (by decide) (by omega)
    | str z => exact (sh_name h).mono (by decide) (by decide)
    | _ => cases h
  split at h
  · obtain ⟨ws, rfl, _, w3, hw⟩ := wd_ex h
    exact (wd_sh w3 hw).mono (by decide) (by decide)
  split at h
  · cases d with
    | none => exact sh_none.mono (by decide) (by decide)
    | tuple ds =>
      by_cases l3 : ds.length = 3
      · obtain ⟨a, b, c, rfl⟩ := three l3
        have h : guardD (.tuple [a, b, c]) = true := h
        rw [gd3, Bool.and_eq_true, Bool.and_eq_true] at h
        obtain ⟨ws, rfl, _, w3, hw⟩ := wd_ex h.2.2
        refine (sh_tup (k := 2) (b := 27) fun e he => ?_).mono (by decide) (by show 28 * 3 ≤ 200; decide)
        rcases List.mem_cons.mp he with rfl | he
        · exact (name_sh h.1).mono (by decide) (by decide)
        rcases List.mem_cons.mp he with rfl | he
        · cases e with
          | str z => exact (sign_sh h.2.1).1.mono (by decide) (by decide)
          | _ => cases h.2.1
        · rw [List.mem_singleton.mp he]
          exact wd_sh w3 hw
      · have h : guardD (.tuple ds) = true := h
        rw [guardD_three l3] at h; cases h
    | _ => cases h
  · exact (name_sh h).mono (by decide) (by decide)
theorem forms_ok : ∀ p ∈ forms, PyData.strOk p.1 = true ∧ p.1.length ≤ 8 ∧ 1 ≤ p.2.length ∧ p.2.length ≤ 5 := by decide +kernel
theorem stepD_get {rs : List Str} {ds : List PyData} (h : stepD rs ds = true) : ds.length = rs.length ∧ ∀ (i : Nat) (d : PyData), ds[i]? = some d → ∃ r, rs[i]? = some r ∧ partD r d = true := by
  unfold stepD at h
  rw [Bool.and_eq_true, beq_iff_eq, List.all_eq_true] at h
  refine ⟨h.1, fun i d e => ?_⟩
  have hi := (List.getElem?_eq_some_iff.mp e).1
  have er := List.getElem?_eq_getElem (l := rs) (i := i) (by omega)
  exact ⟨_, er, h.2 (d, _) (List.mem_of_getElem? (List.getElem?_zip_eq_some.mpr ⟨e, er⟩))⟩
theorem stepD_bad {rs : List Str} {ds : List PyData} {i : Nat} {d : PyData} (e : ds[i]? = some d) (h : ∀ r, partD r d = false) : stepD rs ds = false := by
  cases z : stepD rs ds with
  | false => rfl
  | true =>
    obtain ⟨r, _, hp⟩ := (stepD_get z).2 i d e
    rw [h r] at hp; cases hp
theorem stepD_len {rs : List Str} {ds : List PyData} (h : ds.length ≠ rs.length) : stepD rs ds = false := by
  unfold stepD
  rw [beq_eq_false_iff_ne.mpr h]; rfl
theorem gst_items {x : Str} {rs : List Str} {ds : List PyData} (hf : (x, rs) ∈ forms) (sd : stepD rs ds = true) : ∀ e ∈ (.str x :: ds : List PyData), Sh 6 200 e := fun e he => by
  rcases List.mem_cons.mp he with rfl | he
  · obtain ⟨h1, h2, _⟩ := forms_ok _ hf
    exact (sh_strO h1 h2).mono (by decide) (by decide)
  · obtain ⟨i, ei⟩ := List.getElem?_of_mem he
    obtain ⟨r, _, hp⟩ := (stepD_get sd).2 i e ei
    exact part_sh hp
theorem bad_sh {ds : List PyData} (h : ∀ e ∈ ds, Sh 6 200 e) (hl : ds.length ≤ 7) : Sh 7 1407 (.tuple ds) := (sh_tup h).mono (by decide) (by omega)
/-- a known word with other parts -/
theorem bad_mk {x : Str} {rs : List Str} {ds : List PyData} (hf : (x, rs) ∈ forms) (sd : stepD rs ds = false) (sg : SgR rs ds) (hl : ds.length ≤ 6) (hs : ∀ e ∈ ds, Sh 6 200 e ∧ szD e = true) : BadSt (.tuple (.str x :: ds)) := by
  obtain ⟨h1, h2, _⟩ := forms_ok _ hf
  have sx : Sh 6 200 (.str x) := (sh_strO h1 h2).mono (by decide) (by decide)
  refine ⟨?_, .inl ⟨rs, hf, sg, by omega⟩, ?_, bad_sh (fun e he => ?_) (by rw [List.length_cons]; omega)⟩
  · simp only [stepAny, lookup_mem forms_nd hf]
    exact sd
  · show (szD (.str x) && szAll ds) = true
    rw [szAll_of fun e he => (hs e he).2, Bool.and_true]
    have h2 : x.length ≤ 8 := h2
    exact decide_eq_true (by omega)
  · rcases List.mem_cons.mp he with rfl | he
    · exact sx
    · exact (hs e he).1
theorem odd_ok : ∀ x ∈ oddWs, PyData.strOk x = true ∧ x.length ≤ 8 := by decide +kernel
/-- another word -/
theorem bad_odd {x : Str} {ds : List PyData} (hx : x ∈ oddWs) (hl : ds.length ≤ 6) (hs : ∀ e ∈ ds, Sh 6 200 e ∧ szD e = true) : BadSt (.tuple (.str x :: ds)) := by
  obtain ⟨h1, h2⟩ := odd_ok _ hx
  have sx : Sh 6 200 (.str x) := (sh_strO h1 h2).mono (by decide) (by decide)
  refine ⟨?_, .inr hx, ?_, bad_sh (fun e he => ?_) (by rw [List.length_cons]; omega)⟩
  · simp only [stepAny, odd_look x hx]
  · show (szD (.str x) && szAll ds) = true
    rw [szAll_of fun e he => (hs e he).2, Bool.and_true]
    have h2 : x.length ≤ 8 := h2
    exact decide_eq_true (by omega)
  · rcases List.mem_cons.mp he with rfl | he
    · exact sx
    · exact (hs e he).1
/-- no word at all -/
theorem bad_none {e0 : PyData} {ds : List PyData} (n : isStrD e0 = false) (h0 : Sh 6 200 e0 ∧ szD e0 = true) (hl : ds.length ≤ 6) (hs : ∀ e ∈ ds, Sh 6 200 e ∧ szD e = true) : BadSt (.tuple (e0 :: ds)) := by
  refine ⟨(by cases e0 <;> first | rfl | cases n), (by cases e0 <;> first | trivial | cases n), ?_, bad_sh (fun e he => ?_) (by rw [List.length_cons]; omega)⟩
  · show (szD e0 && szAll ds) = true
    rw [szAll_of fun e he => (hs e he).2, Bool.and_true]
    exact h0.2
  · rcases List.mem_cons.mp he with rfl | he
    · exact h0.1
    · exact (hs e he).1
theorem dq_set {H : Hp} {v : V} {d : PyData} : ∀ {us : List V} {ds : List PyData} (i : Nat), DqAll H us ds → Dq H v d → DqAll H (us.set i v) (ds.set i d)
  | _, _, _, .nil, _ => .nil
  | _, _, 0, .cons a t, h => .cons h t
  | _, _, i + 1, .cons a t, h => .cons a (dq_set i t h)
theorem it8' {n : Nat} (h : n ≤ 200) : n ≤ sizeLine := by rw [sizeLine_eq]; omega
theorem cut_init (xs : List V) : cutV xs none (some (-1)) = xs.dropLast := by
  unfold cutV
  rw [List.dropLast_eq_take, HT.sIx_none, List.drop_zero]
  have h1 : HT.sIx xs.length xs.length (some (-1)) = xs.length - 1 := by
    show (if (-1 : Int) < 0 then ((-1 : Int) + (xs.length : Int)).toNat else min (-1 : Int).toNat xs.length) = _
    rw [if_pos (by decide)]
    omega
  rw [h1, Nat.sub_zero]
theorem slT {K : PySem.W.Frag} {H : Hp} {a : Addr} {xs : List V} {lo hi : Option Int} {Q : VK} (hx : H a = some (.tup xs)) (q : ∀ b H', H' b = some (.tup (cutV xs lo hi)) → Kp [] H H' → Q (.ref b) H') : rSlA K (.ref a) lo hi H Q := by
  refine ⟨a, xs, rfl, sq_t hx, fun h => q _ _ ?_ (Kp.refl _ _), fun _ p np => q _ _ upd_same (Kp.new np)⟩
  unfold cutV
  rw [h.1, h.2]
  simpa using hx
theorem set_cut {α : Type} {l : List α} {i : Nat} {x : α} (h : i < l.length) : l.take i ++ [x] ++ l.drop (i + 1) = l.set i x := by
  rw [List.set_eq_take_append_cons_drop, if_pos h, List.append_assoc]; rfl
theorem dq_dropLast {H : Hp} : ∀ {us : List V} {ds : List PyData}, DqAll H us ds → DqAll H us.dropLast ds.dropLast := fun {us ds} h => by
  rw [List.dropLast_eq_take, List.dropLast_eq_take, h.len]
  exact dq_take _ h
theorem oddW_all : ∀ d ∈ ([.str "", .str "Read", .str "load", .str "unlock", .str "both", .str "return", .str "again", .str "reads", .str "lock ", .int 7, .none, .bool true] : List PyData), (∃ x, d = .str x ∧ x ∈ oddWs) ∨ (isStrD d = false ∧ Sh 6 200 d ∧ szD d = true ∧ scD d = true) := by
  intro d hd
  simp only [List.mem_cons, List.not_mem_nil, or_false] at hd
  rcases hd with rfl | rfl | rfl | rfl | rfl | rfl | rfl | rfl | rfl | rfl | rfl | rfl
  · exact .inl ⟨_, rfl, by decide +kernel⟩
  · exact .inl ⟨_, rfl, by decide +kernel⟩
  · exact .inl ⟨_, rfl, by decide +kernel⟩
  · exact .inl ⟨_, rfl, by decide +kernel⟩
  · exact .inl ⟨_, rfl, by decide +kernel⟩
  · exact .inl ⟨_, rfl, by decide +kernel⟩
  · exact .inl ⟨_, rfl, by decide +kernel⟩
  · exact .inl ⟨_, rfl, by decide +kernel⟩
  · exact .inl ⟨_, rfl, by decide +kernel⟩
  · exact .inr ⟨rfl, (sh_intB (by decide)).mono (by decide) (by decide), rfl, rfl⟩
  · exact .inr ⟨rfl, sh_none.mono (by decide) (by decide), rfl, rfl⟩
  · exact .inr ⟨rfl, sh_bool.mono (by decide) (by decide), rfl, rfl⟩
theorem sgr_nil {rs : List Str} : SgR rs [] := fun i d e => nomatch e
section
variable {P : Program} {w : World} {K : PySem.W.Frag} {mg : Str → Option Value} {base : Heap}
def spSpoilt : Sp := fun vs H Q _ => ∃ (a nl : Addr) (v : V) (d : PyData) (l : Lk) (zs : List Str) (S : List Addr), vs = [.ref a, v, .ref nl] ∧ Dq H v d ∧ GoodSt d l ∧ RowAt H a ∧ NmsAt H nl zs ∧ a ≠ nl ∧ a ∈ S ∧ Std S H ∧ ∀ (v' : V) (d' : PyData) (H' : Hp), Dq (wo S H') v' d' → BadSt d' → RowAt H' a → Kp [a] H H' → Q v' H'
theorem ok_law_spoilt {f : Addr} {fd : FuncData} (D : Df K mg "_law_spoilt" s_law_spoilt ["_law_row_here", "_law_step_here", "_law_names_here"] f fd) (T : BtLL mg) {fr : Addr} {fdr : FuncData} (D_law_draw : Df K mg "_law_draw" s_law_draw ["_law_row_here", "_law_many"] fr fdr) (G_law_draw : FnOk P w K mg base CX0 1 fr fdr ["_law_row_here", "_law_many"] spDraw)
    {fo : Addr} {fdo : FuncData} (D_law_odd_part : Df K mg "_law_odd_part" s_law_odd_part ["_law_row_here", "_law_names_here"] fo fdo) (G_law_odd_part : FnOk P w K mg base CX0 4 fo fdo ["_law_row_here", "_law_names_here"] spOddP) : FnOk P w K mg base CX0 5 f fd ["_law_row_here", "_law_step_here", "_law_names_here"] spSpoilt := by
  refine D.F.ok sc_law_spoilt (fun vs H Q E h => ?_) (fun cdv A outer s H vs Q E hr h => ?_)
  · obtain ⟨_, _, _, _, _, _, _, rfl, _⟩ := h
    rfl
  · obtain ⟨a, nl, v, d, l, zs, S, rfl, hv, hg, ha, hn, ne, aS, hS, q⟩ := h
    obtain ⟨x, rs, ds, rfl, hf, sd, sg, sz, nol, l5, _⟩ := hg
    obtain ⟨f1, f2, f3, f4⟩ := forms_ok _ hf
    obtain ⟨dl, dg⟩ := stepD_get sd
    have f3 : 1 ≤ rs.length := f3
    have f4 : rs.length ≤ 5 := f4
    cases hv with
    | @tup b us _ e hd =>
    have ul : us.length = ds.length + 1 := hd.len
    refine ⟨_, (pss_cons (ps_set (i := 3) sc_law_spoilt.nd rfl (Or.inl rfl) (pe_call G_law_draw (hr.mono (by decide)) rfl D_law_draw.g D_law_draw.F.kp D_law_draw.b .nil pass0 (pa_cons (pv 0) (pa_cons pe_int pa_nil))))
      (pss_cons (ps_set (i := 4) sc_law_spoilt.nd rfl (Or.inl rfl) (pe_op op_add pe_int (pe_call G_law_draw (hr.mono (by decide)) rfl D_law_draw.g D_law_draw.F.kp D_law_draw.b .nil pass0 (pa_cons (pv 0) (pa_cons (pe_op op_sub (pe_callB (id := "len") (r := Evl.rLenS K) call_len_seq (by rfl) T.b_len PySem.boot_len (pa_cons (pv 1) pa_nil)) pe_int) pa_nil)))))
      (pss_cons (ps_if (pt_cmpR op_eq (pv 3) pe_int (nomark _)) (pss_one (ps_ret (pe_op op_catA (pe_op op_catA (pe_slice sl_tupA (pv 1) po_none (po_some (pv 4))) (pe_tup (pa_cons (pe_call G_law_odd_part (hr.mono (by decide)) rfl D_law_odd_part.g D_law_odd_part.F.kp D_law_odd_part.b .nil pass0 (pa_cons (pv 0) (pa_cons (pv 2) pa_nil))) pa_nil))) (pe_slice sl_tupA (pv 1) (po_some (pe_op op_add (pv 4) pe_int)) po_none)))) pss_nil)
      (pss_cons (ps_if (pt_cmpR op_eq (pv 3) pe_int (nomark _)) (pss_one (ps_ret (pe_callTy call_list_of (by rfl) T.b_list (by decide +kernel) (pa_cons (pv 1) pa_nil)))) pss_nil)
      (pss_cons (ps_if (pt_cmpR op_eq (pv 3) pe_int (nomark _)) (pss_one (ps_ret (pe_op op_catA (pv 1) (pe_tup (pa_cons pe_non pa_nil))))) pss_nil)
      (pss_cons (ps_if (pt_cmpR op_eq (pv 3) pe_int (nomark _)) (pss_one (ps_ret (pe_slice sl_tupA (pv 1) po_none (po_some (pe_un un_neg pe_int))))) pss_nil)
      (pss_cons (ps_if (pt_cmpR op_eq (pv 3) pe_int (nomark _)) (pss_cons (ps_set (i := 5) sc_law_spoilt.nd rfl (Or.inl rfl) (pe_lst (pa_cons pe_str (pa_cons pe_str (pa_cons pe_str (pa_cons pe_str (pa_cons pe_str (pa_cons pe_str (pa_cons pe_str (pa_cons pe_str (pa_cons pe_str (pa_cons pe_int (pa_cons pe_non (pa_cons pe_bl pa_nil))))))))))))))
      (pss_one (ps_ret (pe_op op_catA (pe_tup (pa_cons (pe_ix (r := rIxL K) ix_list (pv 5) (pe_call G_law_draw (hr.mono (by decide)) rfl D_law_draw.g D_law_draw.F.kp D_law_draw.b .nil pass0 (pa_cons (pv 0) (pa_cons pe_int pa_nil))) (fun _ _ => rfl)) pa_nil)) (pe_slice sl_tupA (pv 1) (po_some pe_int) po_none))))) pss_nil)
      (pss_one (ps_ret (pe_ix (r := rIxL K) ix_list (pe_lst (pa_cons pe_non (pa_cons pe_str (pa_cons pe_int (pa_cons pe_bl (pa_cons (pe_tup pa_nil) (pa_cons (pe_tup (pa_cons pe_str pa_nil)) (pa_cons (pe_lst (pa_cons pe_str pa_nil)) (pa_cons (pe_tup (pa_cons pe_str pa_nil)) pa_nil))))))))) (pe_call G_law_draw (hr.mono (by decide)) rfl D_law_draw.g D_law_draw.F.kp D_law_draw.b .nil pass0 (pa_cons (pv 0) (pa_cons pe_int pa_nil))) (fun _ _ => rfl))))))))))), ?_⟩
    try simp (maxSteps := 1000000) only [tSeq, tIfS, tTest, tOp, tUn, tCB, tCons, tNil, tVar, tC, rI0, rI, rU, rEq, rNe, tRet, tRetN, tAsg, gName, gSub, tBM, tBM0, tNext, tB, tNot, tAnd, tOr, tIf, tCall, tDrop, tBreak, tCont, L2.start, tDGet, sDPut, tTup, tLst, tDNewK, tRevL, rCat, rAppend, rPop, rSetL, tAndV, tOrV, tNotV, tSl, tPart, tNoPart, tM1, gTup, gCons, gNil, cxK, cxnK, List.map_cons, List.map_nil, List.length_cons, List.length_nil, List.replicate, List.cons_append, List.nil_append, List.append_nil, List.set_cons_zero, List.set_cons_succ, List.getElem?_cons_zero, List.getElem?_cons_succ, Option.some.injEq, V.ref.injEq, V.int.injEq, V.str.injEq, V.bl.injEq, V.ty.injEq, exists_eq_left', exists_eq_left, exists_and_left, List.cons.injEq, and_true, true_and, sc_ii, sc_ss, sc_bb, sc_ni, sc_in, sc_is, sc_si, sc_nn, decide_true, decide_false, reduceCtorEq, Bool.false_eq_true, if_true, if_false, ite_true, ite_false, exists_const, eq_self, false_and, and_false, or_false, false_or, exists_false, Evl.rLenS, rSum, wipe, tYes, exists_eq, exists_eq', rIxL, rIxT, rIxS, exists_and_right, gt_iff_lt, not_true_eq_false, not_false_eq_true, Bool.not_true, Bool.not_false, decide_eq_true_eq, Nat.reduceSub, Nat.reduceAdd, List.append_assoc, tChain, tDIn, tDNotIn, sDDel, tAug, ipI]
    refine ⟨a, 6, rfl, ha, by decide, fun way H1 w0 w6 a1 k1 => ?_⟩
    dsimp only
    have hn1 := hn.kpa ne k1
    have hS1 := hS.kpa k1 a1
    have eA := hd
    have e1 := k1 _ _ (not1 (fun z => by
      obtain ⟨ns, en, _⟩ := ha
      rw [← z, e] at en; cases en)) e
    have ba : b ≠ a := fun z => by
      obtain ⟨ns, en, _⟩ := ha
      rw [← z, e] at en; cases en
    refine ⟨us, .inr (sq_t e1), a, (us.length : Nat) - 1, rfl, a1, by omega, fun y H2 y0 y1 a2 k2 => ⟨y, rfl, ?_⟩⟩
    obtain ⟨j, rfl⟩ : ∃ j : Nat, y = j := ⟨y.toNat, (Int.toNat_of_nonneg y0).symm⟩
    have hj : j < ds.length := by omega
    have hn2 := hn1.kpa ne k2
    have hS2 := hS1.kpa k2 a2
    have k02 := k1.trans k2
    have e2 := k02 _ _ (not1 ba) e
    have nlA : noLAll (.str x :: ds) = true := nol
    have dA : ∀ H', Kp [a] H H' → DqAll (wo S H') us (.str x :: ds) := fun H' k => noL_woA (kp_in k aS) hS hd nlA
    have rowS : ∀ H', RowAt H' a → Kp [a] H H' → Std S H' := fun H' r k => hS.kpa k r
    have mv : ∀ {G G' : Hp} {v : V} {d : PyData}, Dq (wo S G) v d → Kp [a] G G' → Dq (wo S G') v d := fun h k => h.kp (wo_kp (kp_in k aS))
    have hit : ∀ g ∈ ds, Sh 6 200 g ∧ szD g = true := fun g hg => ⟨gst_items hf sd g (List.mem_cons_of_mem _ hg), szAll_mem (by
      have h' : (szD (.str x) && szAll ds) = true := sz
      rw [Bool.and_eq_true] at h'
      exact h'.2) g hg⟩
    have e11 : (1 : Int) + (j : Int) = ((j + 1 : Nat) : Int) := by push_cast; omega
    have e12 : (1 : Int) + (j : Int) + 1 = ((j + 2 : Nat) : Int) := by push_cast; omega
    refine ⟨rfl, ?_⟩
    split
    · refine slA_to (k := j + 1) e11 e2 fun r1 H3 h3 k3 => ⟨a, nl, zs, S, rfl, a2.kp0 k3, hn2.kp k3, ne, aS, hS2.kp k3, fun u d' H4 hu od a4 k4 => ⟨it8 (by decide), fun p np => ?_⟩⟩
      have r1a : r1 ≠ a := fun z => by
        obtain ⟨ns, en, _⟩ := a2.kp0 k3
        rw [← z, h3] at en; cases en
      have h4 := k4 _ _ (not1 r1a) h3
      have e4 := (k3.of0.trans k4) _ _ (not1 ba) e2
      have kp := (Kp.new np : Kp [] H4 (upd H4 p (.tup [u])))
      refine catA_use (kp _ _ not0 h4) upd_same (by simp only [List.length_take, List.length_cons, List.length_nil]; omega) fun r2 H5 h5 k5 => slA_from (k := j + 2) e12 ((kp.trans k5) _ _ not0 e4) fun r3 H6 h6 k6 => catA_use (k6 _ _ not0 h5) h6 (by simp only [List.length_append, List.length_take, List.length_drop, List.length_cons, List.length_nil]; omega) fun r4 H7 h7 k7 => ?_
      have k47 : Kp [] H4 H7 := ((kp.trans k5).trans k6).trans k7
      have k07 : Kp [a] H H7 := ((k02.trans k3.of0).trans k4).trans k47.of0
      have a7 := a4.kp0 k47
      have s7 := rowS H7 a7 k07
      rw [set_cut (by omega)] at h7
      have h8 : DqAll (wo S H7) (us.set (j + 1) u) ((.str x :: ds).set (j + 1) d') := dq_set (j + 1) (dA H7 k07) (mv hu k47.of0)
      rw [List.set_cons_succ] at h8
      have gj : (ds.set j d')[j]? = some d' := by rw [List.getElem?_set_self hj]
      refine q _ _ _ (.tup (tup_wo s7 h7) h8) (bad_mk hf (stepD_bad gj od.no) (fun i g eg er => ?_) (by rw [List.length_set]; omega) (fun g hg => ?_)) a7 k07
      · by_cases z : i = j
        · subst z
          rw [gj] at eg; cases eg
          exact od.sg
        · rw [List.getElem?_set_ne (Ne.symm z)] at eg
          exact sg i g eg er
      · rcases List.mem_or_eq_of_mem_set hg with hg | rfl
        · exact hit g hg
        · exact ⟨od.sh, od.sz⟩
    refine ⟨rfl, ?_⟩
    split
    · refine ⟨us, .inr (sq_t e2), fun p np => ?_⟩
      refine q _ _ _ (newL hS2 np (dA H2 k02)) ⟨rfl, trivial, sz, ?_⟩ (a2.kp0 (Kp.new np)) (k02.trans (Kp.new np).of0)
      exact (sh_lst (gst_items hf sd)).mono (by decide) (by rw [List.length_cons]; omega)
    refine ⟨rfl, ?_⟩
    split
    · refine ⟨it8 (by decide), fun p np => ?_⟩
      have kp := (Kp.new np : Kp [] H2 (upd H2 p (.tup [.non])))
      refine catA_use (kp _ _ not0 e2) upd_same (by simp only [List.length_cons, List.length_nil]; omega) fun r2 H3 h3 k3 => ?_
      have k23 := kp.trans k3
      have k03 := k02.trans k23.of0
      have s3 := hS2.kp k23
      refine q _ (.tuple (.str x :: (ds ++ [PyData.none]))) _ (.tup (tup_wo s3 h3) (show DqAll (wo S H3) _ (.str x :: (ds ++ [PyData.none])) from DqAll.app (dA H3 k03) (.cons .non .nil))) (bad_mk hf (stepD_len (by rw [List.length_append, dl]; simp)) (fun i g eg er => ?_) (by rw [List.length_append]; simp; omega) (fun g hg => ?_)) (a2.kp0 k23) k03
      · have hi := (List.getElem?_eq_some_iff.mp er).1
        rw [List.getElem?_append_left (by omega)] at eg
        exact sg i g eg er
      · rcases List.mem_append.mp hg with hg | hg
        · exact hit g hg
        · rw [List.mem_singleton.mp hg]
          exact ⟨sh_none.mono (by decide) (by decide), rfl⟩
    refine ⟨rfl, ?_⟩
    split
    · refine slT e2 fun r2 H3 h3 k3 => ?_
      rw [cut_init] at h3
      have k03 := k02.trans k3.of0
      have s3 := hS2.kp k3
      have h4 := dq_dropLast (dA H3 k03)
      cases ds with
      | nil => simp at hj
      | cons d0 dr =>
        refine q _ (.tuple (.str x :: (d0 :: dr).dropLast)) _ (.tup (tup_wo s3 h3) h4) (bad_mk hf (stepD_len (by rw [List.length_dropLast, dl]; omega)) (fun i g eg er => ?_) (by rw [List.length_dropLast]; omega) (fun g hg => hit g (List.dropLast_subset _ hg))) (a2.kp0 k3) k03
        have hi := (List.getElem?_eq_some_iff.mp eg).1
        rw [List.getElem?_dropLast] at eg
        split at eg
        · exact sg i g eg er
        · cases eg
    refine ⟨rfl, ?_⟩
    split
    · refine ⟨it8' (by decide), fun p1 n1 => ?_⟩
      have g1 := (Kp.new n1 : Kp [] H2 (upd H2 p1 (.lst [.str "", .str "Read", .str "load", .str "unlock", .str "both", .str "return", .str "again", .str "reads", .str "lock ", .int 7, .non, .bl true])))
      have h1 : (upd H2 p1 (.lst [.str "", .str "Read", .str "load", .str "unlock", .str "both", .str "return", .str "again", .str "reads", .str "lock ", .int 7, .non, .bl true])) p1 = some (.lst [.str "", .str "Read", .str "load", .str "unlock", .str "both", .str "return", .str "again", .str "reads", .str "lock ", .int 7, .non, .bl true]) := upd_same
      have na1 : p1 ≠ a := Ne.symm (a2.ne n1)
      generalize upd H2 p1 (.lst [.str "", .str "Read", .str "load", .str "unlock", .str "both", .str "return", .str "again", .str "reads", .str "lock ", .int 7, .non, .bl true]) = G1 at g1 h1
      refine ⟨a, 12, rfl, a2.kp0 g1, by decide, fun r G2 r0 r8 a3 k3 => ?_⟩
      have all : DqAll G2 [.str "", .str "Read", .str "load", .str "unlock", .str "both", .str "return", .str "again", .str "reads", .str "lock ", .int 7, .non, .bl true] [.str "", .str "Read", .str "load", .str "unlock", .str "both", .str "return", .str "again", .str "reads", .str "lock ", .int 7, .none, .bool true] :=
        .cons (.str _) (.cons (.str _) (.cons (.str _) (.cons (.str _) (.cons (.str _) (.cons (.str _) (.cons (.str _) (.cons (.str _) (.cons (.str _) (.cons (.int 7) (.cons .non (.cons (.bl true) .nil)))))))))))
      obtain ⟨u, d, eu, hm, hu⟩ := dq_pick all r0 r8
      have k23 := g1.of0.trans k3
      have k03 := k02.trans k23
      refine ⟨_, r, rfl, sq_l (k3 _ _ (not1 na1) h1), u, eu, it8 (by decide), fun p2 n2 => ?_⟩
      have g2 := (Kp.new n2 : Kp [] G2 (upd G2 p2 (.tup [u])))
      have e3 := (k23.trans g2.of0) _ _ (not1 ba) e2
      refine slA_from (k := 1) rfl e3 fun r3 G3 h3 g3 => ?_
      have g23 := g2.trans g3
      refine catA_use (g3 _ _ not0 upd_same) h3 (by simp only [List.length_drop, List.length_cons, List.length_nil]; omega) fun r4 G4 h4 g4 => ?_
      have g24 := g23.trans g4
      have k04 := k03.trans g24.of0
      have a4 := a3.kp0 g24
      have s4 := rowS G4 a4 k04
      have dd : DqAll (wo S G4) (us.drop 1) ds := dq_drop 1 (dA G4 k04)
      rcases oddW_all d hm with ⟨t, rfl, ht⟩ | ⟨n1', n2', n3', n4'⟩
      · cases hu
        exact q _ _ _ (.tup (tup_wo s4 h4) (.cons (.str t) dd)) (bad_odd ht (by omega) hit) a4 k04
      · have hu4 : Dq (wo S G4) u d := noL_wo (kp_in g24.of0 aS) (rowS G2 a3 k03) hu (by cases d <;> first | rfl | cases n4')
        exact q _ _ _ (.tup (tup_wo s4 h4) (.cons hu4 dd)) (bad_none n1' ⟨n2', n3'⟩ (by omega) hit) a4 k04
    · refine ⟨Nat.zero_le _, fun p1 n1 => ⟨it8 (by decide), fun p2 n2 => ⟨it8 (by decide), fun p3 n3 => ⟨it8 (by decide), fun p4 n4 => ⟨it8 (by decide), fun p5 n5 => ?_⟩⟩⟩⟩⟩
      have g1 := (Kp.new n1 : Kp [] H2 (upd H2 p1 (.tup [])))
      have s1 := hS2.new (o := .tup []) n1
      have d1 := newT hS2 n1 .nil
      generalize upd H2 p1 (.tup []) = G1 at g1 s1 d1 n2 n3 n4 n5 ⊢
      have g2 := (Kp.new n2 : Kp [] G1 (upd G1 p2 (.tup [.str "read"])))
      have s2 := s1.new (o := .tup [.str "read"]) n2
      have d2 := newT s1 n2 (.cons (.str "read") .nil)
      generalize upd G1 p2 (.tup [.str "read"]) = G2 at g2 s2 d2 n3 n4 n5
      have g3 := (Kp.new n3 : Kp [] G2 (upd G2 p3 (.lst [.str "read"])))
      have s3 := s2.new (o := .lst [.str "read"]) n3
      have d3 := newL s2 n3 (.cons (.str "read") .nil)
      generalize upd G2 p3 (.lst [.str "read"]) = G3 at g3 s3 d3 n4 n5
      have g4 := (Kp.new n4 : Kp [] G3 (upd G3 p4 (.tup [.str "lock"])))
      have s4 := s3.new (o := .tup [.str "lock"]) n4
      have d4 := newT s3 n4 (.cons (.str "lock") .nil)
      generalize upd G3 p4 (.tup [.str "lock"]) = G4 at g4 s4 d4 n5
      have g5 := (Kp.new n5 : Kp [] G4 (upd G4 p5 (.lst [.non, .str "read", .int 7, .bl true, .ref p1, .ref p2, .ref p3, .ref p4])))
      have h5 : (upd G4 p5 (.lst [.non, .str "read", .int 7, .bl true, .ref p1, .ref p2, .ref p3, .ref p4])) p5 = some (.lst [.non, .str "read", .int 7, .bl true, .ref p1, .ref p2, .ref p3, .ref p4]) := upd_same
      have g14 := ((g1.trans g2).trans g3).trans g4
      have n5a : p5 ≠ a := Ne.symm ((a2.kp0 g14).ne n5)
      generalize upd G4 p5 (.lst [.non, .str "read", .int 7, .bl true, .ref p1, .ref p2, .ref p3, .ref p4]) = G5 at g5 h5
      have k25 := g14.trans g5
      refine ⟨a, 8, rfl, a2.kp0 k25, by decide, fun r G6 r0 r8 a6 k6 => ?_⟩
      have all : DqAll (wo S G6) [.non, .str "read", .int 7, .bl true, .ref p1, .ref p2, .ref p3, .ref p4] [.none, .str "read", .int 7, .bool true, .tuple [], .tuple [.str "read"], .list [.str "read"], .tuple [.str "lock"]] :=
        .cons .non (.cons (.str _) (.cons (.int 7) (.cons (.bl true) (.cons (mv d1 ((((g2.trans g3).trans g4).trans g5).of0.trans k6)) (.cons (mv d2 (((g3.trans g4).trans g5).of0.trans k6)) (.cons (mv d3 ((g4.trans g5).of0.trans k6)) (.cons (mv d4 (g5.of0.trans k6)) .nil)))))))
      obtain ⟨u, d, eu, hm, hu⟩ := dq_pick all r0 r8
      refine ⟨_, r, rfl, sq_l (k6 _ _ (not1 n5a) h5), u, eu, q u d G6 hu ?_ a6 ((k02.trans k25.of0).trans k6)⟩
      have shx : ∀ z : Str, PyData.strOk z = true → z.length ≤ 8 → Sh 1 8 (.str z) := fun z h l => sh_strO h l
      simp only [List.mem_cons, List.not_mem_nil, or_false] at hm
      rcases hm with rfl | rfl | rfl | rfl | rfl | rfl | rfl | rfl
      · exact ⟨rfl, trivial, rfl, sh_none.mono (by decide) (by decide)⟩
      · exact ⟨rfl, trivial, by decide +kernel, (shx _ (by decide +kernel) (by decide +kernel)).mono (by decide) (by decide)⟩
      · exact ⟨rfl, trivial, rfl, (sh_intB (by decide)).mono (by decide) (by decide)⟩
      · exact ⟨rfl, trivial, rfl, sh_bool.mono (by decide) (by decide)⟩
      · exact ⟨rfl, trivial, rfl, (sh_tup (k := 1) (b := 1) (fun d hd => absurd hd List.not_mem_nil)).mono (by decide) (by decide)⟩
      · exact bad_mk (rs := ["local", "place", "guard"]) (by decide +kernel) (stepD_len (by decide)) sgr_nil (by decide) (fun g hg => absurd hg List.not_mem_nil)
      · exact ⟨rfl, trivial, by decide +kernel, (sh_lst (k := 1) (b := 8) (fun d hd => by rw [List.mem_singleton.mp hd]; exact shx _ (by decide +kernel) (by decide +kernel))).mono (by decide) (by decide)⟩
      · exact bad_mk (rs := ["name"]) (by decide +kernel) (stepD_len (by decide)) sgr_nil (by decide) (fun g hg => absurd hg List.not_mem_nil)
end
end My

set_option Elab.async false
set_option linter.all false
set_option maxRecDepth 100000
set_option maxHeartbeats 4000000
namespace My
open PySem L2 NdefX
abbrev s_law_spoil : Stmt := top 38
theorem sc_law_spoil : FnScope ["_law_row_here", "_law_steps_here", "_law_names_here", "_law_bad", "_law_k", "_law_at"] ["_law_row_here", "_law_steps_here", "_law_names_here"] (defScope s_law_spoil) := ⟨rfl, rfl, rfl, by decide +kernel, rfl, by decide +kernel, by decide +kernel⟩
abbrev s_law_lock_fault : Stmt := top 39
theorem sc_law_lock_fault : FnScope ["_law_row_here", "_law_steps_here", "_law_bad", "_law_name", "_law_at"] ["_law_row_here", "_law_steps_here", "_law_bad", "_law_name"] (defScope s_law_lock_fault) := ⟨rfl, rfl, rfl, by decide +kernel, rfl, by decide +kernel, by decide +kernel⟩
/-- the steps after some were spoilt -/
def Mixed (ds : List PyData) (ls : List Lk) (bad : List Int) : Prop := ds.length = ls.length ∧ ∀ (i : Nat) (d : PyData), ds[i]? = some d → ((i : Int) ∈ bad ∧ BadSt d) ∨ ((i : Int) ∉ bad ∧ ∃ l, ls[i]? = some l ∧ GoodSt d l)
theorem GoodRs.mixed {ds : List PyData} {ls : List Lk} (h : GoodRs ds ls) : Mixed ds ls [] := ⟨h.1, fun i d e => .inr ⟨List.not_mem_nil, h.2 i d e⟩⟩
theorem Mixed.good {ds : List PyData} {ls : List Lk} (h : Mixed ds ls []) : GoodRs ds ls := ⟨h.1, fun i d e => by
  rcases h.2 i d e with ⟨m, _⟩ | ⟨_, g⟩
  · exact absurd m List.not_mem_nil
  · exact g⟩
theorem Mixed.put {ds : List PyData} {ls : List Lk} {bad : List Int} {i : Nat} {d : PyData} (h : Mixed ds ls bad) (b : BadSt d) : Mixed (ds.set i d) ls (bad ++ [(i : Int)]) := by
  refine ⟨by rw [List.length_set]; exact h.1, fun j e he => ?_⟩
  by_cases z : i = j
  · subst z
    have hi : i < ds.length := by
      have := (List.getElem?_eq_some_iff.mp he).1
      rwa [List.length_set] at this
    rw [List.getElem?_set_self hi] at he
    cases he
    exact .inl ⟨by simp, b⟩
  · rw [List.getElem?_set_ne z] at he
    have nj : (j : Int) ≠ (i : Int) := fun e => z (by omega)
    rcases h.2 j e he with ⟨m, q⟩ | ⟨m, q⟩
    · exact .inl ⟨List.mem_append_left _ m, q⟩
    · exact .inr ⟨fun m' => by
        rcases List.mem_append.mp m' with m' | m'
        · exact m m'
        · exact nj (List.mem_singleton.mp m'), q⟩
theorem wo_sub {S T : List Addr} {H : Hp} (h : ∀ x ∈ S, x ∈ T) : Kp [] (wo T H) (wo S H) := fun b ob _ e => by
  unfold wo at e ⊢
  by_cases z : b ∈ T
  · rw [if_pos z] at e; cases e
  · rw [if_neg z] at e
    rw [if_neg fun m => z (h b m)]
    exact e
structure BtSp (mg : Str → Option Value) : Prop where
  b_len : mg "len" = none
  b_range : mg "range" = none
  b_max : mg "max" = none
  b_sorted : mg "sorted" = none
section
variable {P : Program} {w : World} {K : PySem.W.Frag} {mg : Str → Option Value} {base : Heap}
def spSpoil : Sp := fun vs H Q _ => ∃ (a st nl : Addr) (xs : List V) (ds : List PyData) (ls : List Lk) (zs : List Str), vs = [.ref a, .ref st, .ref nl] ∧ RowAt H a ∧ NmsAt H nl zs ∧ a ≠ nl ∧ a ≠ st ∧ st ≠ nl ∧ H st = some (.lst xs) ∧ DqAll H xs ds ∧ GoodRs ds ls ∧ ds.length ≤ 120 ∧
  ∀ (p : Addr) (bad : List Int) (xs' : List V) (ds' : List PyData) (H' : Hp), H p = none → H' p = some (.lst (bad.map V.int)) → bad.length ≤ 2 → bad.Pairwise (· ≤ ·) → (∀ b ∈ bad, 0 ≤ b ∧ b < (ds.length : Nat)) → Mixed ds' ls bad → ds'.length = ds.length → H' st = some (.lst xs') → DqAll (wo [a, st] H') xs' ds' → RowAt H' a → Kp [a, st] H H' → Q (.ref p) H'
def SpInv (a st nl : Addr) (ls : List Lk) (n : Nat) (o : Addr) (H : Hp) (j : Nat) (σ : L2.St) (H' : Hp) : Prop := ∃ (bad : List Int) (xs : List V) (ds : List PyData) (c4 c5 : Option V), σ = [some (.ref a), some (.ref st), some (.ref nl), some (.ref o), c4, c5] ∧ H' o = some (.lst (bad.map V.int)) ∧ bad.length ≤ j ∧ (∀ b ∈ bad, 0 ≤ b ∧ b < (n : Int)) ∧ Mixed ds ls bad ∧ ds.length = n ∧ H' st = some (.lst xs) ∧ DqAll (wo [a, st, o] H') xs ds ∧ RowAt H' a ∧ Kp [a, st] H H'
theorem ok_law_spoil {f : Addr} {fd : FuncData} (D : Df K mg "_law_spoil" s_law_spoil ["_law_row_here", "_law_steps_here", "_law_names_here"] f fd) (T : BtSp mg) {fr : Addr} {fdr : FuncData} (D_law_draw : Df K mg "_law_draw" s_law_draw ["_law_row_here", "_law_many"] fr fdr) (G_law_draw : FnOk P w K mg base CX0 1 fr fdr ["_law_row_here", "_law_many"] spDraw)
    {fo : Addr} {fdo : FuncData} (D_law_spoilt : Df K mg "_law_spoilt" s_law_spoilt ["_law_row_here", "_law_step_here", "_law_names_here"] fo fdo) (G_law_spoilt : FnOk P w K mg base CX0 5 fo fdo ["_law_row_here", "_law_step_here", "_law_names_here"] spSpoilt) : FnOk P w K mg base CX0 6 f fd ["_law_row_here", "_law_steps_here", "_law_names_here"] spSpoil := by
  refine D.F.ok sc_law_spoil (fun vs H Q E h => ?_) (fun cdv A outer s H vs Q E hr h => ?_)
  · obtain ⟨_, _, _, _, _, _, _, rfl, _⟩ := h
    rfl
  · obtain ⟨a, st, nl, xs, ds, ls, zs, rfl, ha, hn, ne, as, sn, hst, hd, gr, l120, q⟩ := h
    refine ⟨_, (pss_cons (ps_set (i := 3) sc_law_spoil.nd rfl (Or.inl rfl) (pe_lst pa_nil))
      (pss_cons (ps_for PassesOwn.never rfl (pi_range1 rfl T.b_range (pa_cons (pe_ix (r := rIxL K) ix_list (pe_lst (pa_cons pe_int (pa_cons pe_int (pa_cons pe_int (pa_cons pe_int pa_nil))))) (pe_call G_law_draw (hr.mono (by decide)) rfl D_law_draw.g D_law_draw.F.kp D_law_draw.b .nil pass0 (pa_cons (pv 0) (pa_cons pe_int pa_nil))) (fun _ _ => rfl)) pa_nil)) (pg_name (i := 4) sc_law_spoil.nd rfl (Or.inl rfl)) (pss_cons (ps_set (i := 5) sc_law_spoil.nd rfl (Or.inl rfl) (pe_call G_law_draw (hr.mono (by decide)) rfl D_law_draw.g D_law_draw.F.kp D_law_draw.b .nil pass0 (pa_cons (pv 0) (pa_cons (pe_callB (id := "max") (call_max2 rfl) (by rfl) T.b_max (by decide +kernel) (pa_cons pe_int (pa_cons (pe_callB (id := "len") (r := Evl.rLenS K) call_len_seq (by rfl) T.b_len PySem.boot_len (pa_cons (pv 1) pa_nil)) pa_nil))) pa_nil))))
      (pss_one (ps_if (PW.pt (pw_and (pt_cmpR op_lt (pv 5) (pe_callB (id := "len") (r := Evl.rLenS K) call_len_seq (by rfl) T.b_len PySem.boot_len (pa_cons (pv 1) pa_nil)) (nomark _)) (pw_and1 (pt_cmpR op_notIn_seq (pv 5) (pv 3) (by rfl))))) (pss_cons (ps_asg (pe_call G_law_spoilt (hr.mono (by decide)) rfl D_law_spoilt.g D_law_spoilt.F.kp D_law_spoilt.b .nil pass0 (pa_cons (pv 0) (pa_cons (pe_ix (r := rIxL K) ix_list (pv 1) (pv 5) (fun _ _ => rfl)) (pa_cons (pv 2) pa_nil)))) (pg_sub (pv 1) (pv 5) set_list))
      (pss_one (ps_expr (pe_bm PySem.F.plainAttrs_list PySem.F.slot_list_append PySem.F.type_list_append mt_append (pv 3) (pa_cons (pv 5) pa_nil))))) pss_nil))))
      (pss_one (ps_ret (pe_callB (id := "sorted") (r := rSorted K) cr_sorted (by rfl) T.b_sorted (by decide +kernel) (pa_cons (pv 3) pa_nil)))))), ?_⟩
    try simp (maxSteps := 1000000) only [tSeq, tIfS, tTest, tOp, tUn, tCB, tCons, tNil, tVar, tC, rI0, rI, rU, rEq, rNe, tRet, tRetN, tAsg, gName, gSub, tBM, tBM0, tNext, tB, tNot, tAnd, tOr, tIf, tCall, tDrop, tBreak, tCont, L2.start, tDGet, sDPut, tTup, tLst, tDNewK, tRevL, rCat, rAppend, rPop, rSetL, tAndV, tOrV, tNotV, tSl, tPart, tNoPart, tM1, gTup, gCons, gNil, cxK, cxnK, List.map_cons, List.map_nil, List.length_cons, List.length_nil, List.replicate, List.cons_append, List.nil_append, List.append_nil, List.set_cons_zero, List.set_cons_succ, List.getElem?_cons_zero, List.getElem?_cons_succ, Option.some.injEq, V.ref.injEq, V.int.injEq, V.str.injEq, V.bl.injEq, V.ty.injEq, exists_eq_left', exists_eq_left, exists_and_left, List.cons.injEq, and_true, true_and, sc_ii, sc_ss, sc_bb, sc_ni, sc_in, sc_is, sc_si, sc_nn, decide_true, decide_false, reduceCtorEq, Bool.false_eq_true, if_true, if_false, ite_true, ite_false, exists_const, eq_self, false_and, and_false, or_false, false_or, exists_false, Evl.rLenS, rSum, wipe, tYes, exists_eq, exists_eq', rIxL, rIxT, rIxS, exists_and_right, gt_iff_lt, not_true_eq_false, not_false_eq_true, Bool.not_true, Bool.not_false, decide_eq_true_eq, Nat.reduceSub, Nat.reduceAdd, List.append_assoc, tChain, tDIn, tDNotIn, sDDel, tAug, ipI]
    refine ⟨Nat.zero_le _, fun o no => ⟨it8 (by decide), fun p1 n1 => ?_⟩⟩
    have ko := (Kp.new no : Kp [] H (upd H o (.lst [])))
    have ho := (upd_same : (upd H o (.lst [])) o = some (.lst []))
    generalize upd H o (.lst []) = H1 at ko ho n1 ⊢
    have k1 := (Kp.new n1 : Kp [] H1 (upd H1 p1 (.lst [.int 0, .int 1, .int 1, .int 2])))
    have h1 := (upd_same : (upd H1 p1 (.lst [.int 0, .int 1, .int 1, .int 2])) p1 = some (.lst [.int 0, .int 1, .int 1, .int 2]))
    have ha1 := ha.kp0 (ko.trans k1)
    have np1 : p1 ≠ a := Ne.symm ((ha.kp0 ko).ne n1)
    generalize upd H1 p1 (.lst [.int 0, .int 1, .int 1, .int 2]) = H2 at k1 h1 ha1 ⊢
    have k2 := ko.trans k1
    have oa : o ≠ a := Ne.symm (ha.ne no)
    have ost : o ≠ st := fun z => by rw [z, hst] at no; cases no
    refine ⟨.ref a, rfl, a, 4, rfl, ha1, by decide, fun r H3 r0 r1 a3 k3 => ?_⟩
    obtain ⟨m, hm, m2⟩ : ∃ m : Nat, atI [V.int 0, .int 1, .int 1, .int 2] r = some (.int m) ∧ m ≤ 2 := by
      have : r = 0 ∨ r = 1 ∨ r = 2 ∨ r = 3 := by omega
      rcases this with rfl | rfl | rfl | rfl
      · exact ⟨0, rfl, by decide⟩
      · exact ⟨1, rfl, by decide⟩
      · exact ⟨1, rfl, by decide⟩
      · exact ⟨2, rfl, by decide⟩
    have aS : a ∈ [a, st] := by simp
    have sS : st ∈ [a, st] := by simp
    have k03 : Kp [a, st] H H3 := k2.of0.trans (kp_in k3 aS)
    have oS : o ∉ [a, st] := by simp [oa, ost]
    have hS3 : Std [a, st] H3 := fun b hb => by
      rcases List.mem_cons.mp hb with rfl | hb
      · obtain ⟨ns, e, _⟩ := a3; exact ⟨_, e⟩
      · rw [List.mem_singleton.mp hb]; exact ⟨_, k3 _ _ (not1 as.symm) (k2 _ _ not0 hst)⟩
    have aT : a ∈ [a, st, o] := by simp
    have sT : st ∈ [a, st, o] := by simp
    have oT : o ∈ [a, st, o] := by simp
    have hd3 : DqAll (wo [a, st, o] H3) xs ds := noL_woA (H := H2) (kp_in k3 aT) (fun b hb => by
      rcases List.mem_cons.mp hb with rfl | hb
      · obtain ⟨ns, e, _⟩ := ha1; exact ⟨_, e⟩
      rcases List.mem_cons.mp hb with rfl | hb
      · exact ⟨_, k2 _ _ not0 hst⟩
      · rw [List.mem_singleton.mp hb]; exact ⟨_, k1 _ _ not0 ho⟩) (DqAll.kp k2 hd) gr.noL
    refine ⟨p1, [V.int 0, .int 1, .int 1, .int 2], r, .int m, rfl, rfl, sq_l (k3 _ _ (not1 np1) h1), hm, ?_⟩
    refine ⟨m, rfl, by omega, by omega, ?_⟩
    refine for_range (lo := 0) (n := m) (SpInv a st nl ls ds.length o H) ⟨[], xs, ds, _, _, rfl, k3 _ _ (not1 oa) (k1 _ _ not0 ho), Nat.zero_le _, (fun b h => absurd h List.not_mem_nil), gr.mixed, rfl, k3 _ _ (not1 as.symm) (k2 _ _ not0 hst), hd3, a3, k03⟩ ?_ ?_
    · rintro j σ H4 hj ⟨bad, xs4, ds4, c4, c5, rfl, hb4, bl4, bb4, mx4, dl4, hst4, hd4, a4, k4⟩
      try simp (maxSteps := 1000000) only [tSeq, tIfS, tTest, tOp, tUn, tCB, tCons, tNil, tVar, tC, rI0, rI, rU, rEq, rNe, tRet, tRetN, tAsg, gName, gSub, tBM, tBM0, tNext, tB, tNot, tAnd, tOr, tIf, tCall, tDrop, tBreak, tCont, L2.start, tDGet, sDPut, tTup, tLst, tDNewK, tRevL, rCat, rAppend, rPop, rSetL, tAndV, tOrV, tNotV, tSl, tPart, tNoPart, tM1, gTup, gCons, gNil, cxK, cxnK, List.map_cons, List.map_nil, List.length_cons, List.length_nil, List.replicate, List.cons_append, List.nil_append, List.append_nil, List.set_cons_zero, List.set_cons_succ, List.getElem?_cons_zero, List.getElem?_cons_succ, Option.some.injEq, V.ref.injEq, V.int.injEq, V.str.injEq, V.bl.injEq, V.ty.injEq, exists_eq_left', exists_eq_left, exists_and_left, List.cons.injEq, and_true, true_and, sc_ii, sc_ss, sc_bb, sc_ni, sc_in, sc_is, sc_si, sc_nn, decide_true, decide_false, reduceCtorEq, Bool.false_eq_true, if_true, if_false, ite_true, ite_false, exists_const, eq_self, false_and, and_false, or_false, false_or, exists_false, Evl.rLenS, rSum, wipe, tYes, exists_eq, exists_eq', rIxL, rIxT, rIxS, exists_and_right, gt_iff_lt, not_true_eq_false, not_false_eq_true, Bool.not_true, Bool.not_false, decide_eq_true_eq, Nat.reduceSub, Nat.reduceAdd, List.append_assoc, tChain, tDIn, tDNotIn, sDDel, tAug, ipI]
      refine ⟨xs4, .inl (sq_l hst4), ?_⟩
      have xl : xs4.length = ds.length := by rw [hd4.len, dl4]
      rw [xl]
      refine ⟨1, ds.length, ⟨rfl, rfl⟩, a, _, rfl, a4, by split <;> omega, fun r' H5 q0 q1 a5 k5 => ?_⟩
      have hb5 := k5 _ _ (not1 oa) hb4
      have hst5 := k5 _ _ (not1 as.symm) hst4
      have k05 := k4.trans (kp_in k5 aS)
      have hd5 : DqAll (wo [a, st, o] H5) xs4 ds4 := DqAll.kp (wo_kp (kp_in k5 aT)) hd4
      have hn5 : NmsAt H5 nl zs := ⟨k05 _ _ (by simp [ne.symm, sn.symm]) hn.1, hn.2⟩
      have hS5 : Std [a, st, o] H5 := fun b hb => by
        rcases List.mem_cons.mp hb with rfl | hb
        · obtain ⟨ns, e, _⟩ := a5; exact ⟨_, e⟩
        rcases List.mem_cons.mp hb with rfl | hb
        · exact ⟨_, hst5⟩
        · rw [List.mem_singleton.mp hb]; exact ⟨_, hb5⟩
      have stay : SpInv a st nl ls ds.length o H (j + 1) [some (.ref a), some (.ref st), some (.ref nl), some (.ref o), some (.int (0 + (j : Nat))), some (.int r')] H5 := ⟨bad, xs4, ds4, _, _, rfl, hb5, by omega, bb4, mx4, dl4, hst5, hd5, a5, k05⟩
      refine ⟨xs4, .inl (sq_l hst5), r', rfl, ?_⟩
      rw [xl]
      split
      · next lt =>
        refine ⟨o, _, rfl, .inl (sq_l hb5), rfl, flat_ints bad, ?_⟩
        simp only [if_true]
        rw [inV_int]
        refine ⟨_, rfl, ?_⟩
        by_cases hm' : r' ∈ bad
        · rw [decide_eq_true hm']
          simp only [Bool.not_true, Bool.false_eq_true, if_false]
          exact stay
        · rw [decide_eq_false hm']
          simp only [Bool.not_false, if_true]
          obtain ⟨i, rfl⟩ : ∃ i : Nat, r' = i := ⟨r'.toNat, (Int.toNat_of_nonneg q0).symm⟩
          have hi : i < xs4.length := by omega
          have ei := List.getElem?_eq_getElem hi
          obtain ⟨d, ed, hdv⟩ := hd5.get ei
          rcases mx4.2 i d ed with ⟨m', _⟩ | ⟨_, l, el, gd⟩
          · exact absurd m' hm'
          refine ⟨xs4, (i : Int), rfl, sq_l hst5, _, atI_nat ei, a, nl, _, d, l, zs, [a, st, o], rfl, hdv.kp wo_to, gd, a5, hn5, ne, aT, hS5, fun v' d' H6 hv' bs a6 k6 => ?_⟩
          have hb6 := k6 _ _ (not1 oa) hb5
          have hst6 := k6 _ _ (not1 as.symm) hst5
          refine ⟨xs4, (i : Int), rfl, hst6, i, (by have := ixN_of (n := xs4.length) (i := (i : Int)) (by omega) (by omega); simpa using this), .inl ⟨rfl, _, sq_l (by rw [upd_ne ost]; exact hb6)⟩, bad.map V.int, by rw [upd_ne ost]; exact hb6, by rw [List.length_map]; exact smallL (by omega), ?_⟩
          have kst : Kp [a, st] H6 (upd H6 st (.lst (xs4.set i v'))) := (Kp.refl _ _).put sS
          have k07 := (k05.trans (kp_in k6 aS)).trans kst
          refine ⟨bad ++ [(i : Int)], xs4.set i v', ds4.set i d', _, _, rfl, by rw [upd_same, List.map_append]; rfl, by rw [List.length_append, List.length_singleton]; omega, fun b hb => ?_, mx4.put bs, by rw [List.length_set]; exact dl4, by rw [upd_ne (Ne.symm ost)]; exact upd_same, ?_, (a6.upn as).upn (Ne.symm oa), k07.wr no⟩
          · rcases List.mem_append.mp hb with hb | hb
            · exact bb4 b hb
            · rw [List.mem_singleton.mp hb]; exact ⟨by omega, by omega⟩
          · have w1 : wo [a, st, o] (upd (upd H6 st (.lst (xs4.set i v'))) o (.lst (bad.map V.int ++ [.int (i : Int)]))) = wo [a, st, o] H6 := by
              funext x
              unfold wo
              split
              · rfl
              · next hx => rw [upd_ne (fun z => hx (by rw [z]; exact oT)), upd_ne (fun z => hx (by rw [z]; exact sT))]
            rw [w1]
            exact dq_set i (DqAll.kp (wo_kp (kp_in k6 aT)) hd5) hv'
      · exact stay
    · rintro σ H4 ⟨bad, xs4, ds4, c4, c5, rfl, hb4, bl4, bb4, mx4, dl4, hst4, hd4, a4, k4⟩
      try simp (maxSteps := 1000000) only [tSeq, tIfS, tTest, tOp, tUn, tCB, tCons, tNil, tVar, tC, rI0, rI, rU, rEq, rNe, tRet, tRetN, tAsg, gName, gSub, tBM, tBM0, tNext, tB, tNot, tAnd, tOr, tIf, tCall, tDrop, tBreak, tCont, L2.start, tDGet, sDPut, tTup, tLst, tDNewK, tRevL, rCat, rAppend, rPop, rSetL, tAndV, tOrV, tNotV, tSl, tPart, tNoPart, tM1, gTup, gCons, gNil, cxK, cxnK, List.map_cons, List.map_nil, List.length_cons, List.length_nil, List.replicate, List.cons_append, List.nil_append, List.append_nil, List.set_cons_zero, List.set_cons_succ, List.getElem?_cons_zero, List.getElem?_cons_succ, Option.some.injEq, V.ref.injEq, V.int.injEq, V.str.injEq, V.bl.injEq, V.ty.injEq, exists_eq_left', exists_eq_left, exists_and_left, List.cons.injEq, and_true, true_and, sc_ii, sc_ss, sc_bb, sc_ni, sc_in, sc_is, sc_si, sc_nn, decide_true, decide_false, reduceCtorEq, Bool.false_eq_true, if_true, if_false, ite_true, ite_false, exists_const, eq_self, false_and, and_false, or_false, false_or, exists_false, Evl.rLenS, rSum, wipe, tYes, exists_eq, exists_eq', rIxL, rIxT, rIxS, exists_and_right, gt_iff_lt, not_true_eq_false, not_false_eq_true, Bool.not_true, Bool.not_false, decide_eq_true_eq, Nat.reduceSub, Nat.reduceAdd, List.append_assoc, tChain, tDIn, tDNotIn, sDDel, tAug, ipI]
      refine ⟨o, bad, rfl, sq_l hb4, by omega, fun ns' p hp hs np => ?_⟩
      have kp := (Kp.new np : Kp [] H4 (upd H4 p (.lst (ns'.map V.int))))
      refine q p ns' xs4 ds4 _ (by
        cases e : H p with
        | none => rfl
        | some u =>
          have pn : p ∉ [a, st] := fun m => by
            rcases List.mem_cons.mp m with rfl | m
            · obtain ⟨ns, e, _⟩ := a4
              rw [np] at e; cases e
            · rw [List.mem_singleton.mp m, hst4] at np; cases np
          have := k4 _ _ pn e
          rw [np] at this; cases this) upd_same (by rw [hp.length_eq]; omega) hs (fun b hb => bb4 b (hp.mem_iff.mp hb)) ⟨mx4.1, fun i d e => ?_⟩ dl4 (kp _ _ not0 hst4) (DqAll.kp (Kp.trans (wo_kp kp.of0) (wo_sub (S := [a, st]) (T := [a, st, o]) (fun x hx => by simp at hx ⊢; rcases hx with h | h; exact .inl h; exact .inr (.inl h)))) hd4) (a4.kp0 kp) (k4.trans kp.of0)
      rcases mx4.2 i d e with ⟨m', g⟩ | ⟨m', g⟩
      · exact .inl ⟨hp.mem_iff.mpr m', g⟩
      · exact .inr ⟨fun z => m' (hp.mem_iff.mp z), g⟩
end
end My

set_option Elab.async false
set_option linter.all false
set_option maxRecDepth 100000
set_option maxHeartbeats 4000000
namespace My
open PySem L2 NdefX
theorem cnt_none {n : Str} : ∀ {ls : List Lk}, (∀ b m, some (b, m) ∈ ls → m ≠ n) → cnt n ls = 0
  | [], _ => rfl
  | l :: r, h => by
    have ih := cnt_none (n := n) (ls := r) fun b m hm => h b m (List.mem_cons_of_mem _ hm)
    show (if l = some (true, n) then 1 else if l = some (false, n) then -1 else 0) + cnt n r = 0
    rw [ih]
    have h1 : l ≠ some (true, n) := fun z => h true n (by rw [z]; exact List.mem_cons_self) rfl
    have h2 : l ≠ some (false, n) := fun z => h false n (by rw [z]; exact List.mem_cons_self) rfl
    rw [if_neg h1, if_neg h2]; rfl
theorem cnt_setL {m n : Str} : ∀ {ls : List Lk} {i : Nat}, ls[i]? = some none → cnt m (ls.set i (some (true, n))) = cnt m ls + (if n = m then 1 else 0)
  | l :: r, 0, e => by
    cases e
    show (if (some (true, n) : Lk) = some (true, m) then 1 else if (some (true, n) : Lk) = some (false, m) then -1 else 0) + cnt m r = (if (none : Lk) = some (true, m) then 1 else if (none : Lk) = some (false, m) then -1 else 0) + cnt m r + _
    by_cases z : n = m
    · subst z; simp; omega
    · simp [z]
  | l :: r, i + 1, e => by
    have ih := cnt_setL (m := m) (n := n) (ls := r) (i := i) e
    show _ + cnt m (r.set i (some (true, n))) = _ + cnt m r + _
    rw [ih]; omega
theorem cn_set {m : Str} {ls : List Lk} {i j : Nat} {x : Lk} (h : j ≤ i) : cn m (ls.set i x) j = cn m ls j := by
  unfold cn
  rw [List.take_set_of_le h]
theorem cn_setL {m n : Str} {ls : List Lk} {i j : Nat} (h : i < j) (e : ls[i]? = some none) : cn m (ls.set i (some (true, n))) j = cn m ls j + (if n = m then 1 else 0) := by
  unfold cn
  rw [List.take_set]
  exact cnt_setL (by rw [List.getElem?_take_of_lt h]; exact e)
theorem cn_no {n : Str} {ls : List Lk} {j : Nat} (h : ∀ b m, some (b, m) ∈ ls → m ≠ n) : cn n ls j = 0 := cnt_none fun b m hm => h b m (List.mem_of_mem_take hm)
theorem isf_free {n : Str} {ls : List Lk} {i : Nat} (h : LkRow ls []) (no : ∀ b m, some (b, m) ∈ ls → m ≠ n) (hi : i < ls.length) : IsF (ls.set i (some (false, n))) (some i) := by
  refine .bad i (by rw [List.length_set]; exact hi) (fun j hj b m e => ?_) fun z => ?_
  · rw [List.getElem?_set_ne (by omega)] at e
    rw [cn_set (by omega)]
    exact h.fine j (by omega) b m e
  · have := z false n (by rw [List.getElem?_set_self hi])
    rw [cn_set (Nat.le_refl _), cn_no no] at this
    cases this
theorem isf_lock {n : Str} {ls : List Lk} {i : Nat} (h : LkRow ls []) (no : ∀ b m, some (b, m) ∈ ls → m ≠ n) (e : ls[i]? = some none) : IsF (ls.set i (some (true, n))) (some ls.length) := by
  have hi := (List.getElem?_eq_some_iff.mp e).1
  have hl : (ls.set i (some (true, n))).length = ls.length := List.length_set
  have := IsF.held (ls := ls.set i (some (true, n))) (fun j hj b m ej => ?_) ⟨n, ?_⟩
  · rw [hl] at this; exact this
  · rw [hl] at hj
    by_cases z : i = j
    · subst z
      rw [List.getElem?_set_self hi] at ej
      cases ej
      rw [cn_set (Nat.le_refl _), cn_no no]; rfl
    · rw [List.getElem?_set_ne z] at ej
      have nm : m ≠ n := no b m (List.mem_of_getElem? ej)
      by_cases hij : i < j
      · rw [cn_setL hij e, if_neg (Ne.symm nm), Int.add_zero]
        exact h.fine j hj b m ej
      · rw [cn_set (by omega)]
        exact h.fine j hj b m ej
  · rw [hl, cn_setL hi e, if_pos rfl, cn_no no]
    decide
theorem Mixed.set {ds : List PyData} {ls : List Lk} {bad : List Int} {i : Nat} {d : PyData} {l : Lk} (h : Mixed ds ls bad) (hi : (i : Int) ∉ bad) (g : GoodSt d l) : Mixed (ds.set i d) (ls.set i l) bad := by
  refine ⟨by rw [List.length_set, List.length_set]; exact h.1, fun j e he => ?_⟩
  by_cases z : i = j
  · subst z
    have hl : i < ds.length := by
      have := (List.getElem?_eq_some_iff.mp he).1
      rwa [List.length_set] at this
    rw [List.getElem?_set_self hl] at he
    cases he
    exact .inr ⟨hi, l, by rw [List.getElem?_set_self (by rw [← h.1]; exact hl)], g⟩
  · rw [List.getElem?_set_ne z] at he
    rw [List.getElem?_set_ne z]
    exact h.2 j e he
section
variable {P : Program} {w : World} {K : PySem.W.Frag} {mg : Str → Option Value} {base : Heap}
def spLkF : Sp := fun vs H Q _ => ∃ (a st bl : Addr) (xs : List V) (ds : List PyData) (ls : List Lk) (bad : List Int) (n4 : Str), vs = [.ref a, .ref st, .ref bl, .str n4] ∧ RowAt H a ∧ a ≠ st ∧ a ≠ bl ∧ st ≠ bl ∧ H st = some (.lst xs) ∧ DqAll (wo [a, st] H) xs ds ∧ Mixed ds ls bad ∧ LkRow ls [] ∧ H bl = some (.lst (bad.map V.int)) ∧ nameS n4 = true ∧ (∀ b m, some (b, m) ∈ ls → m ≠ n4) ∧ ds.length ≤ 120 ∧
  ∀ (r : Int) (xs' : List V) (ds' : List PyData) (ls' : List Lk) (H' : Hp), H' st = some (.lst xs') → DqAll (wo [a, st] H') xs' ds' → Mixed ds' ls' bad → ds'.length = ds.length → RowAt H' a → Kp [a, st] H H' → ((r = -1 ∧ IsF ls' none) ∨ ∃ k : Nat, r = k ∧ k ≤ 120 ∧ IsF ls' (some k)) → Q (.int r) H'
theorem ok_law_lock_fault {f : Addr} {fd : FuncData} (D : Df K mg "_law_lock_fault" s_law_lock_fault ["_law_row_here", "_law_steps_here", "_law_bad", "_law_name"] f fd) (T : BtLn mg) {fr : Addr} {fdr : FuncData} (D_law_draw : Df K mg "_law_draw" s_law_draw ["_law_row_here", "_law_many"] fr fdr) (G_law_draw : FnOk P w K mg base CX0 1 fr fdr ["_law_row_here", "_law_many"] spDraw) : FnOk P w K mg base CX0 2 f fd ["_law_row_here", "_law_steps_here", "_law_bad", "_law_name"] spLkF := by
  refine D.F.ok sc_law_lock_fault (fun vs H Q E h => ?_) (fun cdv A outer s H vs Q E hr h => ?_)
  · obtain ⟨_, _, _, _, _, _, _, _, rfl, _⟩ := h
    rfl
  · obtain ⟨a, st, bl, xs, ds, ls, bad, n4, rfl, ha, as, ab, sb, hst, hd, mx, lk, hbl, gn, no, l120, q⟩ := h
    refine ⟨_, (pss_cons (ps_if (PW.pt (pw_or (pt_cmpR op_ne (pe_call G_law_draw (hr.mono (by decide)) rfl D_law_draw.g D_law_draw.F.kp D_law_draw.b .nil pass0 (pa_cons (pv 0) (pa_cons pe_int pa_nil))) pe_int (nomark _)) (pw_or1 (pt_cmpR op_eq (pe_callB (id := "len") (r := Evl.rLenS K) call_len_seq (by rfl) T.b_len PySem.boot_len (pa_cons (pv 1) pa_nil)) pe_int (nomark _))))) (pss_one (ps_ret (pe_un un_neg pe_int))) pss_nil)
      (pss_cons (ps_set (i := 4) sc_law_lock_fault.nd rfl (Or.inl rfl) (pe_call G_law_draw (hr.mono (by decide)) rfl D_law_draw.g D_law_draw.F.kp D_law_draw.b .nil pass0 (pa_cons (pv 0) (pa_cons (pe_callB (id := "len") (r := Evl.rLenS K) call_len_seq (by rfl) T.b_len PySem.boot_len (pa_cons (pv 1) pa_nil)) pa_nil))))
      (pss_cons (ps_if (pt_cmpR op_in_seq (pv 4) (pv 2) (by rfl)) (pss_one (ps_ret (pe_un un_neg pe_int))) pss_nil)
      (pss_cons (ps_if (pt_cmpR op_eq (pe_call G_law_draw (hr.mono (by decide)) rfl D_law_draw.g D_law_draw.F.kp D_law_draw.b .nil pass0 (pa_cons (pv 0) (pa_cons pe_int pa_nil))) pe_int (nomark _)) (pss_cons (ps_asg (pe_tup (pa_cons pe_str (pa_cons (pv 3) pa_nil))) (pg_sub (pv 1) (pv 4) set_list))
      (pss_one (ps_ret (pv 4)))) pss_nil)
      (pss_cons (ps_if (pt_cmpR op_in_seq (pe_ix (r := rIxT K) ix_tup (pe_ix (r := rIxL K) ix_list (pv 1) (pv 4) (fun _ _ => rfl)) pe_int (fun _ _ => rfl)) (pe_tup (pa_cons pe_str (pa_cons pe_str pa_nil))) (by rfl)) (pss_one (ps_ret (pe_un un_neg pe_int))) pss_nil)
      (pss_cons (ps_asg (pe_tup (pa_cons pe_str (pa_cons (pv 3) pa_nil))) (pg_sub (pv 1) (pv 4) set_list))
      (pss_one (ps_ret (pe_callB (id := "len") (r := Evl.rLenS K) call_len_seq (by rfl) T.b_len PySem.boot_len (pa_cons (pv 1) pa_nil)))))))))), ?_⟩
    try simp (maxSteps := 1000000) only [tSeq, tIfS, tTest, tOp, tUn, tCB, tCons, tNil, tVar, tC, rI0, rI, rU, rEq, rNe, tRet, tRetN, tAsg, gName, gSub, tBM, tBM0, tNext, tB, tNot, tAnd, tOr, tIf, tCall, tDrop, tBreak, tCont, L2.start, tDGet, sDPut, tTup, tLst, tDNewK, tRevL, rCat, rAppend, rPop, rSetL, tAndV, tOrV, tNotV, tSl, tPart, tNoPart, tM1, gTup, gCons, gNil, cxK, cxnK, List.map_cons, List.map_nil, List.length_cons, List.length_nil, List.replicate, List.cons_append, List.nil_append, List.append_nil, List.set_cons_zero, List.set_cons_succ, List.getElem?_cons_zero, List.getElem?_cons_succ, Option.some.injEq, V.ref.injEq, V.int.injEq, V.str.injEq, V.bl.injEq, V.ty.injEq, exists_eq_left', exists_eq_left, exists_and_left, List.cons.injEq, and_true, true_and, sc_ii, sc_ss, sc_bb, sc_ni, sc_in, sc_is, sc_si, sc_nn, decide_true, decide_false, reduceCtorEq, Bool.false_eq_true, if_true, if_false, ite_true, ite_false, exists_const, eq_self, false_and, and_false, or_false, false_or, exists_false, Evl.rLenS, rSum, wipe, tYes, exists_eq, exists_eq', rIxL, rIxT, rIxS, exists_and_right, gt_iff_lt, not_true_eq_false, not_false_eq_true, Bool.not_true, Bool.not_false, decide_eq_true_eq, Nat.reduceSub, Nat.reduceAdd, List.append_assoc, tChain, tDIn, tDNotIn, sDDel, tAug, ipI]
    have aS : a ∈ [a, st] := by simp
    have sS : st ∈ [a, st] := by simp
    have xl : xs.length = ds.length := hd.len
    have stay : ∀ H', RowAt H' a → Kp [a] H H' → Q (.int (-1)) H' := fun H' r k => q (-1) xs ds ls H' (k _ _ (not1 as.symm) hst) (DqAll.kp (wo_kp (kp_in k aS)) hd) mx rfl r (kp_in k aS) (.inl ⟨rfl, lk.good⟩)
    refine ⟨a, 4, rfl, ha, by decide, fun r1 H1 q0 q1 a1 k1 => ?_⟩
    dsimp only
    refine ⟨rfl, ?_⟩
    split
    · exact stay H1 a1 k1
    have hst1 := k1 _ _ (not1 as.symm) hst
    refine ⟨xs, .inl (sq_l hst1), ?_⟩
    split
    · exact stay H1 a1 k1
    next hx0 =>
    refine ⟨xs, .inl (sq_l hst1), a, _, rfl, a1, by omega, fun y H2 y0 y1 a2 k2 => ?_⟩
    have k02 := k1.trans k2
    have hbl2 := k02 _ _ (not1 ab.symm) hbl
    have hst2 := k02 _ _ (not1 as.symm) hst
    refine ⟨bl, _, rfl, .inl (sq_l hbl2), rfl, flat_ints bad, ?_⟩
    simp only [Bool.false_eq_true, if_false]
    rw [inV_int]
    refine ⟨_, rfl, ?_⟩
    by_cases hm : y ∈ bad
    · rw [decide_eq_true hm, if_pos rfl]
      exact stay H2 a2 k02
    rw [decide_eq_false hm, if_neg (by decide)]
    obtain ⟨i, rfl⟩ : ∃ i : Nat, y = i := ⟨y.toNat, (Int.toNat_of_nonneg y0).symm⟩
    have hi : i < xs.length := by omega
    have il : i < ls.length := by rw [← mx.1]; omega
    refine ⟨a, 2, rfl, a2, by decide, fun z H3 z0 z1 a3 k3 => ?_⟩
    have k03 := k02.trans k3
    have hst3 := k03 _ _ (not1 as.symm) hst
    have hd3 : DqAll (wo [a, st] H3) xs ds := DqAll.kp (wo_kp (kp_in k03 aS)) hd
    have hS3 : Std [a, st] H3 := fun b hb => by
      rcases List.mem_cons.mp hb with rfl | hb
      · obtain ⟨ns, e, _⟩ := a3; exact ⟨_, e⟩
      · rw [List.mem_singleton.mp hb]; exact ⟨_, hst3⟩
    have ixi : ixN xs.length (i : Int) = some i := by
      have := ixN_of (n := xs.length) (i := (i : Int)) (by omega) (by omega)
      simpa using this
    have fin : ∀ (b : Bool) (r : Int) (H4 : Hp) (p : Addr), Kp [] H3 H4 → H4 p = none → (r = -1 ∧ IsF (ls.set i (some (b, n4))) none ∨ ∃ k : Nat, r = k ∧ k ≤ 120 ∧ IsF (ls.set i (some (b, n4))) (some k)) → Q (.int r) (upd (upd H4 p (.tup [.str (if b then "lock" else "free"), .str n4])) st (.lst (xs.set i (.ref p)))) := fun b r H4 p k34 np hF => by
      have kp := (Kp.new np : Kp [] H4 (upd H4 p (.tup [.str (if b then "lock" else "free"), .str n4])))
      have hv := newT (hS3.kp k34) np (us := [.str (if b then "lock" else "free"), .str n4]) (ds := [.str (if b then "lock" else "free"), .str n4]) (.cons (.str _) (.cons (.str _) .nil))
      have sp : st ≠ p := fun z => by rw [← z, k34 _ _ not0 hst3] at np; cases np
      have a5 := a3.kp0 (k34.trans kp)
      generalize upd H4 p (.tup [.str (if b then "lock" else "free"), .str n4]) = H5 at kp hv a5 ⊢
      have k35 := k34.trans kp
      have hd5 : DqAll (wo [a, st] H5) xs ds := DqAll.kp (wo_kp k35.of0) hd3
      have w1 : wo [a, st] (upd H5 st (.lst (xs.set i (.ref p)))) = wo [a, st] H5 := by
        funext x
        unfold wo
        split
        · rfl
        · next hx => rw [upd_ne (fun z => hx (by rw [z]; exact sS))]
      exact q r _ _ _ _ upd_same (by rw [w1]; exact dq_set i hd5 hv) (mx.set hm (st_lock gn b)) (by rw [List.length_set]) (a5.upn as) (((kp_in k03 aS).trans k35.of0).put sS) hF
    refine ⟨rfl, ?_⟩
    split
    · refine ⟨it8 (by decide), fun p np => ⟨xs, (i : Int), rfl, by rw [upd_ne (fun z => by rw [← z, hst3] at np; cases np)]; exact hst3, i, ixi, ?_⟩⟩
      exact fin false i H3 p (Kp.refl _ _) np (.inr ⟨i, rfl, by omega, isf_free lk no il⟩)
    have ei := List.getElem?_eq_getElem hi
    obtain ⟨d, ed, hdv⟩ := hd3.get ei
    rcases mx.2 i d ed with ⟨m', _⟩ | ⟨_, l, el, gd⟩
    · exact absurd m' hm
    obtain ⟨x, rs, dr, rfl, hf, sd, sg, sz, nol, l5, cs⟩ := gd
    rw [show xs[i] = xs[i] from rfl] at hdv
    generalize hv0 : xs[i] = v0 at hdv ei
    cases hdv with
    | @tup b us _ e hdd =>
    cases hdd with
    | @cons u0 ps _ _ h0 hps =>
    cases h0
    have e3 : H3 b = some (.tup (.str x :: ps)) := wo_to _ _ not0 e
    refine ⟨xs, (i : Int), rfl, sq_l hst3, _, atI_nat ei, b, rfl, _, sq_t e3, _, atI_of (by decide) rfl, it8 (by decide), fun p np => ?_⟩
    have kp := (Kp.new np : Kp [] H3 (upd H3 p (.tup [.str "lock", .str "free"])))
    refine in_lit (ks := ["lock", "free"]) upd_same ⟨_, rfl, ?_⟩
    by_cases hw : x ∈ (["lock", "free"] : List Str)
    · rw [decide_eq_true hw, if_pos rfl]
      exact stay _ (a3.kp0 kp) (k03.trans kp.of0)
    · rw [decide_eq_false hw, if_neg (by decide)]
      have el0 : ls[i]? = some none := by
        rcases cs with ⟨rfl, _, _⟩ | ⟨b', n', rfl, ex, _, _⟩
        · exact el
        · exact absurd (by rw [ex]; cases b' <;> simp) hw
      refine ⟨it8 (by decide), fun p2 np2 => ⟨xs, (i : Int), rfl, ?_, i, ixi, xs.set i (.ref p2), ?_, ?_⟩⟩
      · have h1 := kp _ _ not0 hst3
        rw [upd_ne (fun z => by rw [← z, h1] at np2; cases np2)]
        exact h1
      · exact .inl (sq_l upd_same)
      · rw [List.length_set]
        have hF := isf_lock lk no el0
        exact fin true xs.length _ p2 kp np2 (.inr ⟨xs.length, rfl, by omega, by rw [xl, mx.1]; exact hF⟩)
end
end My

set_option Elab.async false
set_option linter.all false
set_option maxRecDepth 100000
set_option maxHeartbeats 4000000
namespace My
open PySem L2 NdefX StX L2H
abbrev s_law_only : Stmt := top 41
theorem sc_law_only : FnScope ["_law_e", "_law_own", "_law_kinds", "_law_k"] ["_law_e", "_law_own"] (defScope s_law_only) := ⟨rfl, rfl, rfl, by decide +kernel, rfl, by decide +kernel, by decide +kernel⟩
/-- what is told of each error -/
structure KinE (K : PySem.W.Frag) (D BN BS BM CE : Addr) (b1 b2 b3 : Bool) : Prop where
  X : XfC K D
  kc : KitC K D
  e1 : PySem.W.kitOne K (.ref D) (.ref BN) = some b1
  e2 : PySem.W.kitOne K (.ref D) (.ref BS) = some b2
  e3 : PySem.W.kitOne K (.ref D) (.ref BM) = some b3
  e4 : PySem.W.kitOne K (.ref D) (.ref CE) = some true
  v : PySem.W.kitOne K (.ref D) (.type "ValueError") = some true
structure BtOn (K : PySem.W.Frag) (mg : Str → Option Value) (BN BS BM CE : Addr) : Prop where
  b_isinstance : mg "isinstance" = none
  b_range : mg "range" = none
  b_ValueError : mg "ValueError" = none
  k_BadName : mg "BadName" = some (.ref BN)
  k_BadStep : mg "BadStep" = some (.ref BS)
  k_BadNumber : mg "BadNumber" = some (.ref BM)
  k_CoreError : mg "CoreError" = some (.ref CE)
  N : KinE K BN BN BS BM CE true false false
  S : KinE K BS BN BS BM CE false true false
  M : KinE K BM BN BS BM CE false false true
def spOnly (BN BS BM : Addr) (a : Addr) (cls : Value) (d : Option Addr) : Sp := fun vs H Q _ => ∃ (D dd : Addr) (fs : List (Str × V)) (own : Int), vs = [.ref a, .int own] ∧ cls = .ref D ∧ d = some dd ∧ H dd = some (.xd fs) ∧ ((D = BN ∧ own = 0) ∨ (D = BS ∧ own = 1) ∨ (D = BM ∧ own = 2)) ∧ ∀ H', Kp [] H H' → Q (.bl true) H'
def b3L (x y z : Bool) : PyData := .list [.bool x, .bool y, .bool z]
section
variable {P : Program} {w : World} {K : PySem.W.Frag} {mg : Str → Option Value} {base : Heap} {BN BS BM CE : Addr}
theorem okz_law_only {f : Addr} {fd : FuncData} (D : Df K mg "_law_only" s_law_only ["_law_e", "_law_own"] f fd) (T : BtOn K mg BN BS BM CE) : FnZN P w K mg base CX0 1 f fd ["_law_e", "_law_own"] (spOnly BN BS BM) := by
  obtain ⟨oc, od, kV, doc, pm, an, cdv, ct, osl, hfd, lk, hcd⟩ := D.F.ex
  rw [hfd] at lk ⊢
  refine fn_ofZN lk hcd sc_law_only (fun a cls d vs H Q E h => ?_) (fun A outer s H vs Q E a oe cls d hr hz hf hot h => ?_)
  · obtain ⟨_, _, _, _, rfl, _⟩ := h
    rfl
  · obtain ⟨D', dd, fs, own, rfl, hcls, hdd, hx, hk, q⟩ := h
    have hmp : (a, oe) ∈ [(a, oe)] := List.mem_cons_self
    refine ⟨_, (pss_cons (ps_set (i := 2) sc_law_only.nd rfl (Or.inl rfl) (pe_lst (pa_cons (pe_callB (id := "isinstance") (r := rIsX K a cls d) (call_isP hmp hz hf) (by rfl) T.b_isinstance (by decide +kernel) (pa_cons (pv 0) (pa_cons (pe_glob (v := .ref BN) rfl T.k_BadName rfl) pa_nil))) (pa_cons (pe_callB (id := "isinstance") (r := rIsX K a cls d) (call_isP hmp hz hf) (by rfl) T.b_isinstance (by decide +kernel) (pa_cons (pv 0) (pa_cons (pe_glob (v := .ref BS) rfl T.k_BadStep rfl) pa_nil))) (pa_cons (pe_callB (id := "isinstance") (r := rIsX K a cls d) (call_isP hmp hz hf) (by rfl) T.b_isinstance (by decide +kernel) (pa_cons (pv 0) (pa_cons (pe_glob (v := .ref BM) rfl T.k_BadNumber rfl) pa_nil))) pa_nil)))))
      (pss_one (ps_ret (pe_and (pe_callB (id := "isinstance") (r := rIsX K a cls d) (call_isP hmp hz hf) (by rfl) T.b_isinstance (by decide +kernel) (pa_cons (pv 0) (pa_cons (pe_glob (v := .ref CE) rfl T.k_CoreError rfl) pa_nil))) (pe_and (pe_callB (id := "isinstance") (r := rIsX K a cls d) (call_isP hmp hz hf) (by rfl) T.b_isinstance (by decide +kernel) (pa_cons (pv 0) (pa_cons (pe_bltn (v := .ty "ValueError") (by rfl) T.b_ValueError (by decide +kernel) rfl) pa_nil))) (pe_one (pe_cmpR (op_eqD hr.units) (pv 2) (pe_lcHot (own := [("_law_k", 3)]) (g := (gName 3)) (tt := tYes) hot sc_law_only.nd rfl T.b_range (pa_cons pe_int pa_nil) (blkOk_by (N := ["_law_e", "_law_own", "_law_kinds", "_law_k"]) (sc := defScope s_law_only) (by decide +kernel)) (fun _ _ _ _ _ => (pg_name (i := 3) sc_law_only.nd rfl (Or.inl rfl))) (fun _ _ _ _ _ => pts_nil) (fun _ _ _ _ _ => (pe_cmpR op_eq (pv 1) (pv 3) (nomark _)))) (nomark _)))))))), ?_⟩
    subst hcls
    subst hdd
    obtain ⟨b1, b2, b3, kk, hb⟩ : ∃ b1 b2 b3, KinE K D' BN BS BM CE b1 b2 b3 ∧ b1 = decide (own = 0) ∧ b2 = decide (own = 1) ∧ b3 = decide (own = 2) := by
      rcases hk with ⟨rfl, rfl⟩ | ⟨rfl, rfl⟩ | ⟨rfl, rfl⟩
      · exact ⟨_, _, _, T.N, rfl, rfl, rfl⟩
      · exact ⟨_, _, _, T.S, rfl, rfl, rfl⟩
      · exact ⟨_, _, _, T.M, rfl, rfl, rfl⟩
    try simp (maxSteps := 1000000) only [tSeq, tIfS, tTest, tOp, tUn, tCB, tCons, tNil, tVar, tC, rI0, rI, rU, rEq, rNe, tRet, tRetN, tAsg, gName, gSub, tBM, tBM0, tNext, tB, tNot, tAnd, tOr, tIf, tCall, tDrop, tBreak, tCont, L2.start, tDGet, sDPut, tTup, tLst, tDNewK, tRevL, rCat, rAppend, rPop, rSetL, tAndV, tOrV, tNotV, tSl, tPart, tNoPart, tM1, gTup, gCons, gNil, cxK, cxnK, List.map_cons, List.map_nil, List.length_cons, List.length_nil, List.replicate, List.cons_append, List.nil_append, List.append_nil, List.set_cons_zero, List.set_cons_succ, List.getElem?_cons_zero, List.getElem?_cons_succ, Option.some.injEq, V.ref.injEq, V.int.injEq, V.str.injEq, V.bl.injEq, V.ty.injEq, exists_eq_left', exists_eq_left, exists_and_left, List.cons.injEq, and_true, true_and, sc_ii, sc_ss, sc_bb, sc_ni, sc_in, sc_is, sc_si, sc_nn, decide_true, decide_false, reduceCtorEq, Bool.false_eq_true, if_true, if_false, ite_true, ite_false, exists_const, eq_self, false_and, and_false, or_false, false_or, exists_false, Evl.rLenS, rSum, wipe, tYes, exists_eq, exists_eq', rIxL, rIxT, rIxS, exists_and_right, gt_iff_lt, not_true_eq_false, not_false_eq_true, Bool.not_true, Bool.not_false, decide_eq_true_eq, Nat.reduceSub, Nat.reduceAdd, List.append_assoc, tChain, tDIn, tDNotIn, sDDel, tAug, ipI]
    have is1 : ∀ {H1 : Hp} {c : V} {cv : Value} {b : Bool} {R : VK}, Kp [] H H1 → (∀ u, RelV c u → u = cv) → PySem.W.kitOne K (.ref D') cv = some b → R (.bl b) H1 → rIsX K a (.ref D') (some dd) [.ref a, c] H1 R := fun k hc e r => ⟨_, _, _, D', dd, _, rfl, hc, rfl, rfl, k _ _ not0 hx, kk.kc, e, r⟩
    refine is1 (Kp.refl _ _) (fun u h => h) kk.e1 (is1 (Kp.refl _ _) (fun u h => h) kk.e2 (is1 (Kp.refl _ _) (fun u h => h) kk.e3 ⟨small (by decide), fun p np => ?_⟩))
    have k1 : Kp [] H (upd H p (.lst [.bl b1, .bl b2, .bl b3])) := Kp.new np
    have hp : (upd H p (.lst [.bl b1, .bl b2, .bl b3])) p = some (.lst [.bl b1, .bl b2, .bl b3]) := upd_same
    generalize upd H p (.lst [.bl b1, .bl b2, .bl b3]) = H1 at k1 hp ⊢
    refine is1 k1 (fun u h => h) kk.e4 ?_
    refine ⟨true, rfl, ?_⟩
    rw [if_pos rfl]
    refine is1 k1 (fun u h => h) kk.v ⟨true, rfl, ?_⟩
    rw [if_pos rfl]
    refine lcRgN 3 (by decide) (fun o i H' => H' o = some (.lst ((List.range i).map fun k : Nat => V.bl (decide (own = (k : Int))))) ∧ Kp [] H1 H') (fun R h => h) (fun o no => ⟨upd_same, Kp.new no⟩) (fun o i H' no hi ⟨ho, kp⟩ => ?_) (fun o H' no ⟨ho, kp⟩ => ?_)
    · refine ⟨rfl, ?_⟩
      try simp (maxSteps := 1000000) only [tSeq, tIfS, tTest, tOp, tUn, tCB, tCons, tNil, tVar, tC, rI0, rI, rU, rEq, rNe, tRet, tRetN, tAsg, gName, gSub, tBM, tBM0, tNext, tB, tNot, tAnd, tOr, tIf, tCall, tDrop, tBreak, tCont, L2.start, tDGet, sDPut, tTup, tLst, tDNewK, tRevL, rCat, rAppend, rPop, rSetL, tAndV, tOrV, tNotV, tSl, tPart, tNoPart, tM1, gTup, gCons, gNil, cxK, cxnK, List.map_cons, List.map_nil, List.length_cons, List.length_nil, List.replicate, List.cons_append, List.nil_append, List.append_nil, List.set_cons_zero, List.set_cons_succ, List.getElem?_cons_zero, List.getElem?_cons_succ, Option.some.injEq, V.ref.injEq, V.int.injEq, V.str.injEq, V.bl.injEq, V.ty.injEq, exists_eq_left', exists_eq_left, exists_and_left, List.cons.injEq, and_true, true_and, sc_ii, sc_ss, sc_bb, sc_ni, sc_in, sc_is, sc_si, sc_nn, decide_true, decide_false, reduceCtorEq, Bool.false_eq_true, if_true, if_false, ite_true, ite_false, exists_const, eq_self, false_and, and_false, or_false, false_or, exists_false, Evl.rLenS, rSum, wipe, tYes, exists_eq, exists_eq', rIxL, rIxT, rIxS, exists_and_right, gt_iff_lt, not_true_eq_false, not_false_eq_true, Bool.not_true, Bool.not_false, decide_eq_true_eq, Nat.reduceSub, Nat.reduceAdd, List.append_assoc, tChain, tDIn, tDNotIn, sDDel, tAug, ipI, tYes]
      refine ⟨_, ho, by rw [List.length_map, List.length_range]; exact smallL (by omega), by rw [upd_same, List.range_succ, List.map_append]; rfl, kp.wr no⟩
    · have ho : H' o = some (.lst [.bl b1, .bl b2, .bl b3]) := by
        rw [ho, hb.1, hb.2.1, hb.2.2]; rfl
      have hp' := kp _ _ not0 hp
      refine ⟨b3L b1 b2 b3, b3L b1 b2 b3, .lst (sq_l hp') (.cons (.bl _) (.cons (.bl _) (.cons (.bl _) .nil))), .lst (sq_l ho) (.cons (.bl _) (.cons (.bl _) (.cons (.bl _) .nil))), ?_, ?_, ?_⟩
      · cases b1 <;> cases b2 <;> cases b3 <;> rfl
      · cases b1 <;> cases b2 <;> cases b3 <;> rfl
      · have e : PyData.eqv (b3L b1 b2 b3) (b3L b1 b2 b3) = true := by cases b1 <;> cases b2 <;> cases b3 <;> rfl
        rw [e]
        exact q H' (k1.trans kp)
end
end My

set_option Elab.async false
set_option linter.all false
set_option maxRecDepth 100000
set_option maxHeartbeats 4000000
namespace My
open PySem L2 NdefX StX L2H
abbrev s_law_told : Stmt := top 42
theorem sc_law_told : FnScope ["_law_name", "_law_steps_here", "_law_named", "_law_rounds", "_law_last", "_law_made", "_law_e"] ["_law_name", "_law_steps_here", "_law_named", "_law_rounds", "_law_last"] (defScope s_law_told) := ⟨rfl, rfl, rfl, by decide +kernel, rfl, by decide +kernel, by decide +kernel⟩
/-- what is told of an operation's making: dn its name, ds the steps, t turns, w otherwise -/
inductive Due (dn : PyData) (ds : List PyData) (ls : List Lk) (t w : PyData) : PyData → Prop
  | name : nameD dn = false → Due dn ds ls t w (.tuple [.str "BadName", dn, .bool true])
  | step (k : Nat) : nameD dn = true → ((ds = [] ∧ k = 0) ∨ (80 < ds.length ∧ k = 80) ∨ (1 ≤ ds.length ∧ ds.length ≤ 80 ∧ FirstBad ds k) ∨ (1 ≤ ds.length ∧ ds.length ≤ 80 ∧ AllSt ds ∧ IsF ls (some k))) → Due dn ds ls t w (.tuple [.str "BadStep", dn, .int (k : Nat), .bool true])
  | num (u : PyData) : nameD dn = true → 1 ≤ ds.length → ds.length ≤ 80 → AllSt ds → IsF ls none → ((belowD 5 t = false ∧ u = t) ∨ (belowD 5 t = true ∧ belowD 10 w = false ∧ u = w)) → Due dn ds ls t w (.tuple [.str "BadNumber", u, .bool true])
  | made : nameD dn = true → 1 ≤ ds.length → ds.length ≤ 80 → AllSt ds → IsF ls none → belowD 5 t = true → belowD 10 w = true → Due dn ds ls t w (.tuple [.str "made", dn, t, w, .list ds])
structure BtTo (K : PySem.W.Frag) (mg : Str → Option Value) (BN BS BM CE : Addr) : Prop extends BtOn K mg BN BS BM CE where
  x11 : PySem.W.exmOne K (.ref BN) (.ref BN) = some true
  x21 : PySem.W.exmOne K (.ref BS) (.ref BN) = some false
  x22 : PySem.W.exmOne K (.ref BS) (.ref BS) = some true
  x31 : PySem.W.exmOne K (.ref BM) (.ref BN) = some false
  x32 : PySem.W.exmOne K (.ref BM) (.ref BS) = some false
  x33 : PySem.W.exmOne K (.ref BM) (.ref BM) = some true
  n1 : PySem.W.findIn K (.ref BN) "name" = some none
  n2 : PySem.W.findIn K (.ref BS) "name" = some none
  n3 : PySem.W.findIn K (.ref BS) "at" = some none
  n4 : PySem.W.findIn K (.ref BM) "number" = some none
def spOpSteps (OP : Addr) : Sp := fun vs H Q _ => ∃ (o dx l : Addr) (nv tv ov : V) (xs : List V), vs = [.ref o] ∧ H o = some (.ins OP dx (opFs nv tv ov l)) ∧ H l = some (.lst xs) ∧ ∀ p, H p = none → Q (.ref p) (upd H p (.lst xs))
theorem kp_one {H M H' : Hp} {x : Addr} (k : Kp [] H M) (k2 : Kp [x] M H') (nx : H x = none) : Kp [] H H' := fun b ob hb e => k2 b ob (not1 fun z => by rw [z, nx] at e; cases e) (k b ob hb e)
theorem told_core {K : PySem.W.Frag} {BN BS BM OP : Addr} {H : Hp} {nv tv wv : V} {dn dt dw : PyData} {st : Addr} {xs : List V} {ds : List PyData} {ls : List Lk} {Q : VK} {E : XK} (hn : Dq H nv dn) (sn : szD dn = true) (hS : H st = some (.lst xs)) (hds : DqAll H xs ds) (hok : ∀ d ∈ ds, szD d = true ∧ okA d) (l1000 : ds.length ≤ 1000) (ht : Dq H tv dt) (sT : szD dt = true) (hw : Dq H wv dw) (sw : szD dw = true) (hst : AllSt ds → Steps H xs ls)
    {x dx : Addr} (nx : H x = none) (ndx : H dx = none) (ne : dx ≠ x)
    (qN : nameD dn = false → ∀ (e : Addr) (H' : Hp), H' e = some (.xd [("name", nv)]) → Kp [] H H' → E (.ref BN) (some e) H')
    (qS : ∀ k : Nat, nameD dn = true → ((ds = [] ∧ k = 0) ∨ (80 < ds.length ∧ k = 80) ∨ (1 ≤ ds.length ∧ ds.length ≤ 80 ∧ FirstBad ds k) ∨ (1 ≤ ds.length ∧ ds.length ≤ 80 ∧ AllSt ds ∧ IsF ls (some k))) → ∀ (e : Addr) (H' : Hp), H' e = some (.xd [("at", .int (k : Nat)), ("name", nv)]) → Kp [] H H' → E (.ref BS) (some e) H')
    (qM : ∀ (u : V) (d : PyData), nameD dn = true → 1 ≤ ds.length → ds.length ≤ 80 → AllSt ds → IsF ls none → ((belowD 5 dt = false ∧ d = dt) ∨ (belowD 5 dt = true ∧ belowD 10 dw = false ∧ d = dw)) → Dq H u d → ∀ (e : Addr) (H' : Hp), H' e = some (.xd [("number", u)]) → Kp [] H H' → E (.ref BM) (some e) H')
    (qG : nameD dn = true → 1 ≤ ds.length → ds.length ≤ 80 → AllSt ds → IsF ls none → belowD 5 dt = true → belowD 10 dw = true → ∀ (l : Addr) (H' : Hp), H l = none → H' x = some (.ins OP dx (opFs nv tv wv l)) → H' l = some (.lst xs) → Kp [] H H' → Q .non H') :
    spOpA K OP BS BN BM [.ref x, nv, .ref st, tv, wv] (upd (upd H dx (.own x)) x (.ins OP dx [])) Q E := by
  have w2 : Kp [] H (upd (upd H dx (.own x)) x (.ins OP dx [])) := (Kp.new ndx).trans (Kp.new (by rw [upd_ne ne.symm]; exact nx))
  have hx : (upd (upd H dx (.own x)) x (.ins OP dx [])) x = some (.ins OP dx []) := upd_same
  generalize (upd (upd H dx (.own x)) x (.ins OP dx [])) = M at w2 hx ⊢
  have ll := hds.len
  have xst : x ≠ st := fun z => by rw [z, hS] at nx; cases nx
  refine ⟨x, dx, st, nv, tv, wv, dn, dt, dw, xs, ds, ls, rfl, hx, hn.kp w2, sn, sq_l (w2 _ _ not0 hS), xst, DqAll.kp w2 hds, hok, l1000, ht.kp w2, sT, hw.kp w2, sw, fun a => (hst a).kp w2, fun nm e H' ne he k => qN nm e H' he (w2.trans k), fun k nm h e H' ne he kk => qS k nm ?_ e H' he (w2.trans kk), fun u nm h1 h2 al hF h e H' ne he k => ?_, fun nm h1 h2 al hF b5 b10 l H' nl ho hl k => qG nm (by rw [← ll]; exact h1) (by rw [← ll]; exact h2) al hF b5 b10 l H' (w2.free0 nl) ho hl (kp_one w2 k nx)⟩
  · rcases h with ⟨h, hk⟩ | ⟨h, hk⟩ | ⟨h1, h2, h⟩ | ⟨h1, h2, h⟩
    · exact .inl ⟨List.eq_nil_of_length_eq_zero (by rw [← ll, h]; rfl), hk⟩
    · exact .inr (.inl ⟨by rw [← ll]; exact h, hk⟩)
    · exact .inr (.inr (.inl ⟨by rw [← ll]; exact h1, by rw [← ll]; exact h2, h⟩))
    · exact .inr (.inr (.inr ⟨by rw [← ll]; exact h1, by rw [← ll]; exact h2, h⟩))
  · rcases h with ⟨b, rfl⟩ | ⟨b, b', rfl⟩
    · exact qM _ dt nm (by rw [← ll]; exact h1) (by rw [← ll]; exact h2) al hF (.inl ⟨b, rfl⟩) ht e H' he (w2.trans k)
    · exact qM _ dw nm (by rw [← ll]; exact h1) (by rw [← ll]; exact h2) al hF (.inr ⟨b, b', rfl⟩) hw e H' he (w2.trans k)
section
variable {P : Program} {w : World} {K : PySem.W.Frag} {mg : Str → Option Value} {base : Heap} {BN BS BM CE OP : Addr}
def spTold (K : PySem.W.Frag) : Sp := fun vs H Q _ => ∃ (nv tv wv : V) (dn dt dw : PyData) (nm : Bool) (st : Addr) (xs : List V) (ds : List PyData) (ls : List Lk), vs = [nv, .ref st, .bl nm, tv, wv] ∧ Dq H nv dn ∧ szD dn = true ∧ H st = some (.lst xs) ∧ DqAll H xs ds ∧ (∀ d ∈ ds, szD d = true ∧ okA d) ∧ ds.length ≤ 1000 ∧ Dq H tv dt ∧ szD dt = true ∧ Dq H wv dw ∧ szD dw = true ∧ (AllSt ds → Steps H xs ls) ∧
  ∀ (v : V) (dd : PyData) (H' : Hp), Due dn ds ls (if nm then dt else .int 1) (if nm then dw else .int 0) dd → Dq H' v dd → Kp [] H H' → Q v H'
theorem ok_law_told {f : Addr} {fd : FuncData} (D : Df K mg "_law_told" s_law_told ["_law_name", "_law_steps_here", "_law_named", "_law_rounds", "_law_last"] f fd) (T : BtTo K mg BN BS BM CE) (O : OpC K mg OP) {fI fS : Addr} {fdI fdS : FuncData} {dsO : List Value} {g : List Value → List Value → List Value} (M_Operation : Mk K OP fI) (hd_Operation : Vals [.int 1, .int 0] dsO) (bD_Operation : Binds K fdI ["self", "name", "steps", "turns", "otherwise"] dsO)
    (kb_Operation : KBn K fdI ["self", "name", "steps", "turns", "otherwise"] 3 ["turns", "otherwise"] g (fun vs zs => vs ++ zs)) (G_Operation_init : FnOk P w K mg base (L2N.CX P w) 7 fI fdI ["self", "name", "steps", "turns", "otherwise"] (spOpA K OP BS BN BM)) (ME_Operation_steps : Meth K OP "steps" fS) (bM_Operation_steps : Binds K fdS ["self"] []) (G_Operation_steps : FnOk P w K mg base CX0 1 fS fdS ["self"] (spOpSteps OP))
    {f1 : Addr} {fd1 : FuncData} (D_law_only : Df K mg "_law_only" s_law_only ["_law_e", "_law_own"] f1 fd1) (Z_law_only : FnZN P w K mg base CX0 1 f1 fd1 ["_law_e", "_law_own"] (spOnly BN BS BM)) : FnOk P w K mg base CX0 9 f fd ["_law_name", "_law_steps_here", "_law_named", "_law_rounds", "_law_last"] (spTold K) := by
  refine D.F.ok sc_law_told (fun vs H Q E h => ?_) (fun cdv A outer s H vs Q E hr h => ?_)
  · obtain ⟨_, _, _, _, _, _, _, _, _, _, _, rfl, _⟩ := h
    rfl
  · obtain ⟨nv, tv, wv, dn, dt, dw, nm, st, xs, ds, ls, rfl, hn, sn, hS, hds, hok, l1000, ht, sT, hw, sw, hst, q⟩ := h
    have hu := hu_of hr
    have XF_BadName := T.N.X
    have XF_BadStep := T.S.X
    have XF_BadNumber := T.M.X
    have NO_BadName_name := T.n1
    have NO_BadStep_name := T.n2
    have NO_BadStep_at := T.n3
    have NO_BadNumber_number := T.n4
    refine ⟨_, (pss_cons (ps_try_as3N (i1 := 6) (i2 := 6) (i3 := 6) rfl rfl sc_law_told.nd rfl rfl rfl rfl rfl rfl ⟨rfl, by decide, .inl T.k_BadName⟩ ⟨rfl, by decide, .inl T.k_BadStep⟩ ⟨rfl, by decide, .inl T.k_BadNumber⟩ takes0N (fun W pn xe tk _ => (pss_one (ps_if (pt_val (pv 2)) (pss_one (ps_set (i := 5) sc_law_told.nd rfl (Or.inl rfl) (pe_makeNT (n := 2) M_Operation G_Operation_init (hr.mono (by decide)) rfl O.k kb_Operation (fun σ => L2N.passAt tk σ) (pa_cons (pv 0) (pa_cons (pv 1) pa_nil)) (pk_cons (pv 3) (pk_cons (pv 4) pk_nil))))) (pss_one (ps_set (i := 5) sc_law_told.nd rfl (Or.inl rfl) (pe_makeS M_Operation G_Operation_init (hr.mono (by decide)) rfl O.k bD_Operation hd_Operation (fun σ => L2N.passAt tk σ) (pa_cons (pv 0) (pa_cons (pv 1) pa_nil)))))))) (fun a oe cls d pn hz hf => (pss_one (ps_ret (pe_tup (pa_cons pe_str (pa_cons (pe_xf XF_BadName NO_BadName_name hz.zc hf (pv 6)) (pa_cons (pe_callZN (List.mem_cons_self) rfl hz hf Z_law_only (roomZ_mark (Room.mono (j := 1) hr (by decide))) (by rfl) D_law_only.g D_law_only.F.kp D_law_only.b (fun σ pins H s e s' I h => pass0 pins σ H s e s' I h) (pa_cons (pv 6) (pa_cons pe_int pa_nil))) pa_nil))))))) (fun a oe cls d pn hz hf => (pss_one (ps_ret (pe_tup (pa_cons pe_str (pa_cons (pe_xf XF_BadStep NO_BadStep_name hz.zc hf (pv 6)) (pa_cons (pe_xf XF_BadStep NO_BadStep_at hz.zc hf (pv 6)) (pa_cons (pe_callZN (List.mem_cons_self) rfl hz hf Z_law_only (roomZ_mark (Room.mono (j := 1) hr (by decide))) (by rfl) D_law_only.g D_law_only.F.kp D_law_only.b (fun σ pins H s e s' I h => pass0 pins σ H s e s' I h) (pa_cons (pv 6) (pa_cons pe_int pa_nil))) pa_nil)))))))) (fun a oe cls d pn hz hf => (pss_one (ps_ret (pe_tup (pa_cons pe_str (pa_cons (pe_xf XF_BadNumber NO_BadNumber_number hz.zc hf (pv 6)) (pa_cons (pe_callZN (List.mem_cons_self) rfl hz hf Z_law_only (roomZ_mark (Room.mono (j := 1) hr (by decide))) (by rfl) D_law_only.g D_law_only.F.kp D_law_only.b (fun σ pins H s e s' I h => pass0 pins σ H s e s' I h) (pa_cons (pv 6) (pa_cons pe_int pa_nil))) pa_nil))))))))
      (pss_one (ps_ret (pe_tup (pa_cons pe_str (pa_cons (pe_fld (pv 5) rfl) (pa_cons (pe_fld (pv 5) rfl) (pa_cons (pe_fld (pv 5) rfl) (pa_cons (pe_meth0 (pv 5) O.cl ME_Operation_steps G_Operation_steps (hr.mono (by decide)) bM_Operation_steps .nil pass0) pa_nil))))))))), ?_⟩
    try simp (maxSteps := 1000000) only [tSeq, tIfS, tTest, tOp, tUn, tCB, tCons, tNil, tVar, tC, rI0, rI, rU, rEq, rNe, tRet, tRetN, tAsg, gName, gSub, tBM, tBM0, tNext, tB, tNot, tAnd, tOr, tIf, tCall, tDrop, tBreak, tCont, L2.start, tDGet, sDPut, tTup, tLst, tDNewK, tRevL, rCat, rAppend, rPop, rSetL, tAndV, tOrV, tNotV, tSl, tPart, tNoPart, tM1, gTup, gCons, gNil, cxK, cxnK, List.map_cons, List.map_nil, List.length_cons, List.length_nil, List.replicate, List.cons_append, List.nil_append, List.append_nil, List.set_cons_zero, List.set_cons_succ, List.getElem?_cons_zero, List.getElem?_cons_succ, Option.some.injEq, V.ref.injEq, V.int.injEq, V.str.injEq, V.bl.injEq, V.ty.injEq, exists_eq_left', exists_eq_left, exists_and_left, List.cons.injEq, and_true, true_and, sc_ii, sc_ss, sc_bb, sc_ni, sc_in, sc_is, sc_si, sc_nn, decide_true, decide_false, reduceCtorEq, Bool.false_eq_true, if_true, if_false, ite_true, ite_false, exists_const, eq_self, false_and, and_false, or_false, false_or, exists_false, Evl.rLenS, rSum, wipe, tYes, exists_eq, exists_eq', rIxL, rIxT, rIxS, exists_and_right, gt_iff_lt, not_true_eq_false, not_false_eq_true, Bool.not_true, Bool.not_false, decide_eq_true_eq, Nat.reduceSub, Nat.reduceAdd, List.append_assoc, tChain, tDIn, tDNotIn, sDDel, tAug, ipI]
    cases nm with
    | true =>
      try simp (maxSteps := 1000000) only [tSeq, tIfS, tTest, tOp, tUn, tCB, tCons, tNil, tVar, tC, rI0, rI, rU, rEq, rNe, tRet, tRetN, tAsg, gName, gSub, tBM, tBM0, tNext, tB, tNot, tAnd, tOr, tIf, tCall, tDrop, tBreak, tCont, L2.start, tDGet, sDPut, tTup, tLst, tDNewK, tRevL, rCat, rAppend, rPop, rSetL, tAndV, tOrV, tNotV, tSl, tPart, tNoPart, tM1, gTup, gCons, gNil, cxK, cxnK, List.map_cons, List.map_nil, List.length_cons, List.length_nil, List.replicate, List.cons_append, List.nil_append, List.append_nil, List.set_cons_zero, List.set_cons_succ, List.getElem?_cons_zero, List.getElem?_cons_succ, Option.some.injEq, V.ref.injEq, V.int.injEq, V.str.injEq, V.bl.injEq, V.ty.injEq, exists_eq_left', exists_eq_left, exists_and_left, List.cons.injEq, and_true, true_and, sc_ii, sc_ss, sc_bb, sc_ni, sc_in, sc_is, sc_si, sc_nn, decide_true, decide_false, reduceCtorEq, Bool.false_eq_true, if_true, if_false, ite_true, ite_false, exists_const, eq_self, false_and, and_false, or_false, false_or, exists_false, Evl.rLenS, rSum, wipe, tYes, exists_eq, exists_eq', rIxL, rIxT, rIxS, exists_and_right, gt_iff_lt, not_true_eq_false, not_false_eq_true, Bool.not_true, Bool.not_false, decide_eq_true_eq, Nat.reduceSub, Nat.reduceAdd, List.append_assoc, tChain, tDIn, tDNotIn, sDDel, tAug, ipI, tMakeNT]
      intro x dx nx ndx hne
      refine told_core hn sn hS hds hok l1000 ht sT hw sw hst nx ndx hne (fun nm e H' he k => ?_) (fun k nm h e H' he kk => ?_) (fun u d nm h1 h2 al hF h hu' e H' he k => ?_) (fun nm h1 h2 al hF b5 b10 l H' _ ho hl k => ?_)
      · refine ⟨true, T.x11, fun _ a na => ?_, fun z => by cases z⟩
        try simp (maxSteps := 1000000) only [tSeq, tIfS, tTest, tOp, tUn, tCB, tCons, tNil, tVar, tC, rI0, rI, rU, rEq, rNe, tRet, tRetN, tAsg, gName, gSub, tBM, tBM0, tNext, tB, tNot, tAnd, tOr, tIf, tCall, tDrop, tBreak, tCont, L2.start, tDGet, sDPut, tTup, tLst, tDNewK, tRevL, rCat, rAppend, rPop, rSetL, tAndV, tOrV, tNotV, tSl, tPart, tNoPart, tM1, gTup, gCons, gNil, cxK, cxnK, List.map_cons, List.map_nil, List.length_cons, List.length_nil, List.replicate, List.cons_append, List.nil_append, List.append_nil, List.set_cons_zero, List.set_cons_succ, List.getElem?_cons_zero, List.getElem?_cons_succ, Option.some.injEq, V.ref.injEq, V.int.injEq, V.str.injEq, V.bl.injEq, V.ty.injEq, exists_eq_left', exists_eq_left, exists_and_left, List.cons.injEq, and_true, true_and, sc_ii, sc_ss, sc_bb, sc_ni, sc_in, sc_is, sc_si, sc_nn, decide_true, decide_false, reduceCtorEq, Bool.false_eq_true, if_true, if_false, ite_true, ite_false, exists_const, eq_self, false_and, and_false, or_false, false_or, exists_false, Evl.rLenS, rSum, wipe, tYes, exists_eq, exists_eq', rIxL, rIxT, rIxS, exists_and_right, gt_iff_lt, not_true_eq_false, not_false_eq_true, Bool.not_true, Bool.not_false, decide_eq_true_eq, Nat.reduceSub, Nat.reduceAdd, List.append_assoc, tChain, tDIn, tDNotIn, sDDel, tAug, ipI, tXf, Ends.off, tCallS]
        refine ⟨_, he, nv, rfl, BN, e, _, 0, rfl, rfl, rfl, he, .inl ⟨rfl, rfl⟩, fun H1 k1 => ⟨small (by decide), fun p np => ?_⟩⟩
        have k2 := (k.trans k1).trans (Kp.new np (o := .tup [.str "BadName", nv, .bl true]))
        exact q _ _ _ (.name nm) (.tup upd_same (.cons (.str _) (.cons (hn.kp k2) (.cons (.bl true) .nil)))) k2
      · refine ⟨false, T.x21, (fun z => nomatch z), fun _ => ⟨true, T.x22, fun _ a na => ?_, fun z => by cases z⟩⟩
        try simp (maxSteps := 1000000) only [tSeq, tIfS, tTest, tOp, tUn, tCB, tCons, tNil, tVar, tC, rI0, rI, rU, rEq, rNe, tRet, tRetN, tAsg, gName, gSub, tBM, tBM0, tNext, tB, tNot, tAnd, tOr, tIf, tCall, tDrop, tBreak, tCont, L2.start, tDGet, sDPut, tTup, tLst, tDNewK, tRevL, rCat, rAppend, rPop, rSetL, tAndV, tOrV, tNotV, tSl, tPart, tNoPart, tM1, gTup, gCons, gNil, cxK, cxnK, List.map_cons, List.map_nil, List.length_cons, List.length_nil, List.replicate, List.cons_append, List.nil_append, List.append_nil, List.set_cons_zero, List.set_cons_succ, List.getElem?_cons_zero, List.getElem?_cons_succ, Option.some.injEq, V.ref.injEq, V.int.injEq, V.str.injEq, V.bl.injEq, V.ty.injEq, exists_eq_left', exists_eq_left, exists_and_left, List.cons.injEq, and_true, true_and, sc_ii, sc_ss, sc_bb, sc_ni, sc_in, sc_is, sc_si, sc_nn, decide_true, decide_false, reduceCtorEq, Bool.false_eq_true, if_true, if_false, ite_true, ite_false, exists_const, eq_self, false_and, and_false, or_false, false_or, exists_false, Evl.rLenS, rSum, wipe, tYes, exists_eq, exists_eq', rIxL, rIxT, rIxS, exists_and_right, gt_iff_lt, not_true_eq_false, not_false_eq_true, Bool.not_true, Bool.not_false, decide_eq_true_eq, Nat.reduceSub, Nat.reduceAdd, List.append_assoc, tChain, tDIn, tDNotIn, sDDel, tAug, ipI, tXf, Ends.off, tCallS]
        refine ⟨_, he, nv, rfl, _, he, .int k, rfl, BS, e, _, 1, rfl, rfl, rfl, he, .inr (.inl ⟨rfl, rfl⟩), fun H1 k1 => ⟨small (by decide), fun p np => ?_⟩⟩
        have k2 := (kk.trans k1).trans (Kp.new np (o := .tup [.str "BadStep", nv, .int (k : Nat), .bl true]))
        exact q _ _ _ (.step k nm h) (.tup upd_same (.cons (.str _) (.cons (hn.kp k2) (.cons (.int _) (.cons (.bl true) .nil))))) k2
      · refine ⟨false, T.x31, (fun z => nomatch z), fun _ => ⟨false, T.x32, (fun z => nomatch z), fun _ => ⟨true, T.x33, fun _ a na => ?_, fun z => by cases z⟩⟩⟩
        try simp (maxSteps := 1000000) only [tSeq, tIfS, tTest, tOp, tUn, tCB, tCons, tNil, tVar, tC, rI0, rI, rU, rEq, rNe, tRet, tRetN, tAsg, gName, gSub, tBM, tBM0, tNext, tB, tNot, tAnd, tOr, tIf, tCall, tDrop, tBreak, tCont, L2.start, tDGet, sDPut, tTup, tLst, tDNewK, tRevL, rCat, rAppend, rPop, rSetL, tAndV, tOrV, tNotV, tSl, tPart, tNoPart, tM1, gTup, gCons, gNil, cxK, cxnK, List.map_cons, List.map_nil, List.length_cons, List.length_nil, List.replicate, List.cons_append, List.nil_append, List.append_nil, List.set_cons_zero, List.set_cons_succ, List.getElem?_cons_zero, List.getElem?_cons_succ, Option.some.injEq, V.ref.injEq, V.int.injEq, V.str.injEq, V.bl.injEq, V.ty.injEq, exists_eq_left', exists_eq_left, exists_and_left, List.cons.injEq, and_true, true_and, sc_ii, sc_ss, sc_bb, sc_ni, sc_in, sc_is, sc_si, sc_nn, decide_true, decide_false, reduceCtorEq, Bool.false_eq_true, if_true, if_false, ite_true, ite_false, exists_const, eq_self, false_and, and_false, or_false, false_or, exists_false, Evl.rLenS, rSum, wipe, tYes, exists_eq, exists_eq', rIxL, rIxT, rIxS, exists_and_right, gt_iff_lt, not_true_eq_false, not_false_eq_true, Bool.not_true, Bool.not_false, decide_eq_true_eq, Nat.reduceSub, Nat.reduceAdd, List.append_assoc, tChain, tDIn, tDNotIn, sDDel, tAug, ipI, tXf, Ends.off, tCallS]
        refine ⟨_, he, u, rfl, BM, e, _, 2, rfl, rfl, rfl, he, .inr (.inr ⟨rfl, rfl⟩), fun H1 k1 => ⟨small (by decide), fun p np => ?_⟩⟩
        have k2 := (k.trans k1).trans (Kp.new np (o := .tup [.str "BadNumber", u, .bl true]))
        exact q _ _ _ (.num d nm h1 h2 al hF h) (.tup upd_same (.cons (.str _) (.cons (hu'.kp k2) (.cons (.bl true) .nil)))) k2
      · refine ⟨rfl, ?_⟩
        try simp (maxSteps := 1000000) only [tSeq, tIfS, tTest, tOp, tUn, tCB, tCons, tNil, tVar, tC, rI0, rI, rU, rEq, rNe, tRet, tRetN, tAsg, gName, gSub, tBM, tBM0, tNext, tB, tNot, tAnd, tOr, tIf, tCall, tDrop, tBreak, tCont, L2.start, tDGet, sDPut, tTup, tLst, tDNewK, tRevL, rCat, rAppend, rPop, rSetL, tAndV, tOrV, tNotV, tSl, tPart, tNoPart, tM1, gTup, gCons, gNil, cxK, cxnK, List.map_cons, List.map_nil, List.length_cons, List.length_nil, List.replicate, List.cons_append, List.nil_append, List.append_nil, List.set_cons_zero, List.set_cons_succ, List.getElem?_cons_zero, List.getElem?_cons_succ, Option.some.injEq, V.ref.injEq, V.int.injEq, V.str.injEq, V.bl.injEq, V.ty.injEq, exists_eq_left', exists_eq_left, exists_and_left, List.cons.injEq, and_true, true_and, sc_ii, sc_ss, sc_bb, sc_ni, sc_in, sc_is, sc_si, sc_nn, decide_true, decide_false, reduceCtorEq, Bool.false_eq_true, if_true, if_false, ite_true, ite_false, exists_const, eq_self, false_and, and_false, or_false, false_or, exists_false, Evl.rLenS, rSum, wipe, tYes, exists_eq, exists_eq', rIxL, rIxT, rIxS, exists_and_right, gt_iff_lt, not_true_eq_false, not_false_eq_true, Bool.not_true, Bool.not_false, decide_eq_true_eq, Nat.reduceSub, Nat.reduceAdd, List.append_assoc, tChain, tDIn, tDNotIn, sDDel, tAug, ipI, tFld, tMeth]
        refine ⟨OP, dx, _, ho, O.cl, O.n1, nv, rfl, OP, dx, _, ho, O.cl, O.n2, tv, rfl, OP, dx, _, ho, O.cl, O.n3, wv, rfl, ?_⟩
        refine ⟨dx, _, ho, rfl, x, dx, l, nv, tv, wv, xs, rfl, ho, hl, fun p1 n1 => ⟨small (by decide), fun p2 n2 => ?_⟩⟩
        have k2 := k.trans (Kp.new n1 (o := .lst xs))
        have k3 := k2.trans (Kp.new n2 (o := .tup [.str "made", nv, tv, wv, .ref p1]))
        exact q _ _ _ (.made nm h1 h2 al hF b5 b10) (.tup upd_same (.cons (.str _) (.cons (hn.kp k3) (.cons (ht.kp k3) (.cons (hw.kp k3) (.cons (.lst ((Kp.new n2 (S := [])) _ _ not0 upd_same) (DqAll.kp k3 hds)) .nil)))))) k3
    | false =>
      try simp (maxSteps := 1000000) only [tSeq, tIfS, tTest, tOp, tUn, tCB, tCons, tNil, tVar, tC, rI0, rI, rU, rEq, rNe, tRet, tRetN, tAsg, gName, gSub, tBM, tBM0, tNext, tB, tNot, tAnd, tOr, tIf, tCall, tDrop, tBreak, tCont, L2.start, tDGet, sDPut, tTup, tLst, tDNewK, tRevL, rCat, rAppend, rPop, rSetL, tAndV, tOrV, tNotV, tSl, tPart, tNoPart, tM1, gTup, gCons, gNil, cxK, cxnK, List.map_cons, List.map_nil, List.length_cons, List.length_nil, List.replicate, List.cons_append, List.nil_append, List.append_nil, List.set_cons_zero, List.set_cons_succ, List.getElem?_cons_zero, List.getElem?_cons_succ, Option.some.injEq, V.ref.injEq, V.int.injEq, V.str.injEq, V.bl.injEq, V.ty.injEq, exists_eq_left', exists_eq_left, exists_and_left, List.cons.injEq, and_true, true_and, sc_ii, sc_ss, sc_bb, sc_ni, sc_in, sc_is, sc_si, sc_nn, decide_true, decide_false, reduceCtorEq, Bool.false_eq_true, if_true, if_false, ite_true, ite_false, exists_const, eq_self, false_and, and_false, or_false, false_or, exists_false, Evl.rLenS, rSum, wipe, tYes, exists_eq, exists_eq', rIxL, rIxT, rIxS, exists_and_right, gt_iff_lt, not_true_eq_false, not_false_eq_true, Bool.not_true, Bool.not_false, decide_eq_true_eq, Nat.reduceSub, Nat.reduceAdd, List.append_assoc, tChain, tDIn, tDNotIn, sDDel, tAug, ipI, tMakeS]
      intro x dx nx ndx hne
      refine told_core hn sn hS hds hok l1000 (.int 1) rfl (.int 0) rfl hst nx ndx hne (fun nm e H' he k => ?_) (fun k nm h e H' he kk => ?_) (fun u d nm h1 h2 al hF h hu' e H' he k => ?_) (fun nm h1 h2 al hF b5 b10 l H' _ ho hl k => ?_)
      · refine ⟨true, T.x11, fun _ a na => ?_, fun z => by cases z⟩
        try simp (maxSteps := 1000000) only [tSeq, tIfS, tTest, tOp, tUn, tCB, tCons, tNil, tVar, tC, rI0, rI, rU, rEq, rNe, tRet, tRetN, tAsg, gName, gSub, tBM, tBM0, tNext, tB, tNot, tAnd, tOr, tIf, tCall, tDrop, tBreak, tCont, L2.start, tDGet, sDPut, tTup, tLst, tDNewK, tRevL, rCat, rAppend, rPop, rSetL, tAndV, tOrV, tNotV, tSl, tPart, tNoPart, tM1, gTup, gCons, gNil, cxK, cxnK, List.map_cons, List.map_nil, List.length_cons, List.length_nil, List.replicate, List.cons_append, List.nil_append, List.append_nil, List.set_cons_zero, List.set_cons_succ, List.getElem?_cons_zero, List.getElem?_cons_succ, Option.some.injEq, V.ref.injEq, V.int.injEq, V.str.injEq, V.bl.injEq, V.ty.injEq, exists_eq_left', exists_eq_left, exists_and_left, List.cons.injEq, and_true, true_and, sc_ii, sc_ss, sc_bb, sc_ni, sc_in, sc_is, sc_si, sc_nn, decide_true, decide_false, reduceCtorEq, Bool.false_eq_true, if_true, if_false, ite_true, ite_false, exists_const, eq_self, false_and, and_false, or_false, false_or, exists_false, Evl.rLenS, rSum, wipe, tYes, exists_eq, exists_eq', rIxL, rIxT, rIxS, exists_and_right, gt_iff_lt, not_true_eq_false, not_false_eq_true, Bool.not_true, Bool.not_false, decide_eq_true_eq, Nat.reduceSub, Nat.reduceAdd, List.append_assoc, tChain, tDIn, tDNotIn, sDDel, tAug, ipI, tXf, Ends.off, tCallS]
        refine ⟨_, he, nv, rfl, BN, e, _, 0, rfl, rfl, rfl, he, .inl ⟨rfl, rfl⟩, fun H1 k1 => ⟨small (by decide), fun p np => ?_⟩⟩
        have k2 := (k.trans k1).trans (Kp.new np (o := .tup [.str "BadName", nv, .bl true]))
        exact q _ _ _ (.name nm) (.tup upd_same (.cons (.str _) (.cons (hn.kp k2) (.cons (.bl true) .nil)))) k2
      · refine ⟨false, T.x21, (fun z => nomatch z), fun _ => ⟨true, T.x22, fun _ a na => ?_, fun z => by cases z⟩⟩
        try simp (maxSteps := 1000000) only [tSeq, tIfS, tTest, tOp, tUn, tCB, tCons, tNil, tVar, tC, rI0, rI, rU, rEq, rNe, tRet, tRetN, tAsg, gName, gSub, tBM, tBM0, tNext, tB, tNot, tAnd, tOr, tIf, tCall, tDrop, tBreak, tCont, L2.start, tDGet, sDPut, tTup, tLst, tDNewK, tRevL, rCat, rAppend, rPop, rSetL, tAndV, tOrV, tNotV, tSl, tPart, tNoPart, tM1, gTup, gCons, gNil, cxK, cxnK, List.map_cons, List.map_nil, List.length_cons, List.length_nil, List.replicate, List.cons_append, List.nil_append, List.append_nil, List.set_cons_zero, List.set_cons_succ, List.getElem?_cons_zero, List.getElem?_cons_succ, Option.some.injEq, V.ref.injEq, V.int.injEq, V.str.injEq, V.bl.injEq, V.ty.injEq, exists_eq_left', exists_eq_left, exists_and_left, List.cons.injEq, and_true, true_and, sc_ii, sc_ss, sc_bb, sc_ni, sc_in, sc_is, sc_si, sc_nn, decide_true, decide_false, reduceCtorEq, Bool.false_eq_true, if_true, if_false, ite_true, ite_false, exists_const, eq_self, false_and, and_false, or_false, false_or, exists_false, Evl.rLenS, rSum, wipe, tYes, exists_eq, exists_eq', rIxL, rIxT, rIxS, exists_and_right, gt_iff_lt, not_true_eq_false, not_false_eq_true, Bool.not_true, Bool.not_false, decide_eq_true_eq, Nat.reduceSub, Nat.reduceAdd, List.append_assoc, tChain, tDIn, tDNotIn, sDDel, tAug, ipI, tXf, Ends.off, tCallS]
        refine ⟨_, he, nv, rfl, _, he, .int k, rfl, BS, e, _, 1, rfl, rfl, rfl, he, .inr (.inl ⟨rfl, rfl⟩), fun H1 k1 => ⟨small (by decide), fun p np => ?_⟩⟩
        have k2 := (kk.trans k1).trans (Kp.new np (o := .tup [.str "BadStep", nv, .int (k : Nat), .bl true]))
        exact q _ _ _ (.step k nm h) (.tup upd_same (.cons (.str _) (.cons (hn.kp k2) (.cons (.int _) (.cons (.bl true) .nil))))) k2
      · refine ⟨false, T.x31, (fun z => nomatch z), fun _ => ⟨false, T.x32, (fun z => nomatch z), fun _ => ⟨true, T.x33, fun _ a na => ?_, fun z => by cases z⟩⟩⟩
        try simp (maxSteps := 1000000) only [tSeq, tIfS, tTest, tOp, tUn, tCB, tCons, tNil, tVar, tC, rI0, rI, rU, rEq, rNe, tRet, tRetN, tAsg, gName, gSub, tBM, tBM0, tNext, tB, tNot, tAnd, tOr, tIf, tCall, tDrop, tBreak, tCont, L2.start, tDGet, sDPut, tTup, tLst, tDNewK, tRevL, rCat, rAppend, rPop, rSetL, tAndV, tOrV, tNotV, tSl, tPart, tNoPart, tM1, gTup, gCons, gNil, cxK, cxnK, List.map_cons, List.map_nil, List.length_cons, List.length_nil, List.replicate, List.cons_append, List.nil_append, List.append_nil, List.set_cons_zero, List.set_cons_succ, List.getElem?_cons_zero, List.getElem?_cons_succ, Option.some.injEq, V.ref.injEq, V.int.injEq, V.str.injEq, V.bl.injEq, V.ty.injEq, exists_eq_left', exists_eq_left, exists_and_left, List.cons.injEq, and_true, true_and, sc_ii, sc_ss, sc_bb, sc_ni, sc_in, sc_is, sc_si, sc_nn, decide_true, decide_false, reduceCtorEq, Bool.false_eq_true, if_true, if_false, ite_true, ite_false, exists_const, eq_self, false_and, and_false, or_false, false_or, exists_false, Evl.rLenS, rSum, wipe, tYes, exists_eq, exists_eq', rIxL, rIxT, rIxS, exists_and_right, gt_iff_lt, not_true_eq_false, not_false_eq_true, Bool.not_true, Bool.not_false, decide_eq_true_eq, Nat.reduceSub, Nat.reduceAdd, List.append_assoc, tChain, tDIn, tDNotIn, sDDel, tAug, ipI, tXf, Ends.off, tCallS]
        refine ⟨_, he, u, rfl, BM, e, _, 2, rfl, rfl, rfl, he, .inr (.inr ⟨rfl, rfl⟩), fun H1 k1 => ⟨small (by decide), fun p np => ?_⟩⟩
        have k2 := (k.trans k1).trans (Kp.new np (o := .tup [.str "BadNumber", u, .bl true]))
        exact q _ _ _ (.num d nm h1 h2 al hF h) (.tup upd_same (.cons (.str _) (.cons (hu'.kp k2) (.cons (.bl true) .nil)))) k2
      · refine ⟨rfl, ?_⟩
        try simp (maxSteps := 1000000) only [tSeq, tIfS, tTest, tOp, tUn, tCB, tCons, tNil, tVar, tC, rI0, rI, rU, rEq, rNe, tRet, tRetN, tAsg, gName, gSub, tBM, tBM0, tNext, tB, tNot, tAnd, tOr, tIf, tCall, tDrop, tBreak, tCont, L2.start, tDGet, sDPut, tTup, tLst, tDNewK, tRevL, rCat, rAppend, rPop, rSetL, tAndV, tOrV, tNotV, tSl, tPart, tNoPart, tM1, gTup, gCons, gNil, cxK, cxnK, List.map_cons, List.map_nil, List.length_cons, List.length_nil, List.replicate, List.cons_append, List.nil_append, List.append_nil, List.set_cons_zero, List.set_cons_succ, List.getElem?_cons_zero, List.getElem?_cons_succ, Option.some.injEq, V.ref.injEq, V.int.injEq, V.str.injEq, V.bl.injEq, V.ty.injEq, exists_eq_left', exists_eq_left, exists_and_left, List.cons.injEq, and_true, true_and, sc_ii, sc_ss, sc_bb, sc_ni, sc_in, sc_is, sc_si, sc_nn, decide_true, decide_false, reduceCtorEq, Bool.false_eq_true, if_true, if_false, ite_true, ite_false, exists_const, eq_self, false_and, and_false, or_false, false_or, exists_false, Evl.rLenS, rSum, wipe, tYes, exists_eq, exists_eq', rIxL, rIxT, rIxS, exists_and_right, gt_iff_lt, not_true_eq_false, not_false_eq_true, Bool.not_true, Bool.not_false, decide_eq_true_eq, Nat.reduceSub, Nat.reduceAdd, List.append_assoc, tChain, tDIn, tDNotIn, sDDel, tAug, ipI, tFld, tMeth]
        refine ⟨OP, dx, _, ho, O.cl, O.n1, nv, rfl, OP, dx, _, ho, O.cl, O.n2, .int 1, rfl, OP, dx, _, ho, O.cl, O.n3, .int 0, rfl, ?_⟩
        refine ⟨dx, _, ho, rfl, x, dx, l, nv, .int 1, .int 0, xs, rfl, ho, hl, fun p1 n1 => ⟨small (by decide), fun p2 n2 => ?_⟩⟩
        have k2 := k.trans (Kp.new n1 (o := .lst xs))
        have k3 := k2.trans (Kp.new n2 (o := .tup [.str "made", nv, .int 1, .int 0, .ref p1]))
        exact q _ _ _ (.made nm h1 h2 al hF b5 b10) (.tup upd_same (.cons (.str _) (.cons (hn.kp k3) (.cons ((Dq.int (H := H) 1).kp k3) (.cons ((Dq.int (H := H) 0).kp k3) (.cons (.lst ((Kp.new n2 (S := [])) _ _ not0 upd_same) (DqAll.kp k3 hds)) .nil)))))) k3
end
end My

set_option Elab.async false
set_option linter.all false
set_option maxRecDepth 100000
set_option maxHeartbeats 4000000
namespace My
open PySem L2 NdefX StX L2H
abbrev s_law_good : Stmt := top 40
theorem sc_law_good : FnScope ["_law_name", "_law_steps_here", "_law_named", "_law_rounds", "_law_last", "_law_handed", "_law_made", "_law_told_here"] ["_law_name", "_law_steps_here", "_law_named", "_law_rounds", "_law_last"] (defScope s_law_good) := ⟨rfl, rfl, rfl, by decide +kernel, rfl, by decide +kernel, by decide +kernel⟩
theorem GoodSt.any {d : PyData} {l : Lk} (h : GoodSt d l) : stepAny d = true ∧ okA d ∧ szD d = true ∧ Sh 7 1407 d := by
  obtain ⟨x, rs, ds, rfl, hf, sd, sg, sz, nl, l5, _⟩ := h
  refine ⟨?_, .inl ⟨rs, hf, sg, by omega⟩, sz, bad_sh (gst_items hf sd) (by rw [List.length_cons]; omega)⟩
  simp only [stepAny, lookup_mem forms_nd hf]
  exact sd
theorem GoodRs.all {ds : List PyData} {ls : List Lk} (h : GoodRs ds ls) : AllSt ds := fun j d e => by
  obtain ⟨l, _, g⟩ := h.2 j d e
  exact g.any.1
theorem GoodRs.mem {ds : List PyData} {ls : List Lk} (h : GoodRs ds ls) : ∀ d ∈ ds, szD d = true ∧ okA d ∧ Sh 7 1407 d := fun d hd => by
  obtain ⟨i, ei⟩ := List.getElem?_of_mem hd
  obtain ⟨l, _, g⟩ := h.2 i d ei
  exact ⟨g.any.2.2.1, g.any.2.1, g.any.2.2.2⟩
theorem part_sg {r : Str} {d : PyData} (h : partD r d = true) : sgOk d := by
  cases d with
  | tuple ds =>
    by_cases l3 : ds.length = 3
    · obtain ⟨a, b, c, rfl⟩ := three l3
      intro _
      unfold partD at h
      split at h
      · cases h
      split at h
      · obtain ⟨ws, e, _, _, hw⟩ := wd_ex h
        cases e
        exact (wd_it (hw b (by simp))).2.1
      split at h
      · have h : guardD (.tuple [a, b, c]) = true := h
        rw [gd3, Bool.and_eq_true, Bool.and_eq_true] at h
        cases b with
        | str z => rfl
        | _ => cases h.2.1
      · cases h
    · unfold sgOk
      split
      · next e => cases e; exact absurd rfl l3
      · trivial
  | _ => trivial
/-- the steps of a good row, in the heap -/
theorem GoodRs.steps {H : Hp} {xs : List V} {ds : List PyData} {ls : List Lk} (h : GoodRs ds ls) (hd : DqAll H xs ds) : Steps H xs ls := by
  refine ⟨hd.len.trans h.1, fun i x e => ?_⟩
  obtain ⟨d, ed, hx⟩ := hd.get e
  obtain ⟨l, el, x0, rs, dr, rfl, hf, sd, sg, sz, nl, l5, cs⟩ := h.2 i d ed
  refine ⟨l, el, ?_⟩
  cases hx with
  | @tup a us _ ea hus =>
  cases hus with
  | @cons u0 ps _ _ h0 hps =>
  cases h0
  have sz' : szAll dr = true := by
    have h' : (szD (PyData.str x0) && szAll dr) = true := sz
    rw [Bool.and_eq_true] at h'; exact h'.2
  have nl' : noLAll dr = true := by
    have h' : (My.noL (PyData.str x0) && noLAll dr) = true := nl
    rw [Bool.and_eq_true] at h'; exact h'.2
  refine ⟨a, x0, ps, dr, rs, rfl, ea, hps, ⟨sz', nl', ?_⟩, hf, ?_, by omega, sd, ?_⟩
  · trivial
  · intro d hm
    obtain ⟨j, ej⟩ := List.getElem?_of_mem hm
    obtain ⟨r, _, hp⟩ := (stepD_get sd).2 j d ej
    exact part_sg hp
  · rcases cs with ⟨rfl, n1, n2⟩ | ⟨b, n, rfl, ex, ed', _⟩
    · exact .inl ⟨rfl, n1, n2⟩
    · subst ed'
      cases hps with
      | cons h1 h2 =>
      cases h1
      cases h2
      exact .inr ⟨b, n, rfl, ex, rfl, rfl⟩
structure BtGd (mg : Str → Option Value) : Prop where
  b_list : mg "list" = none
  b_repr : mg "repr" = none
section
variable {P : Program} {w : World} {K : PySem.W.Frag} {mg : Str → Option Value} {base : Heap} {BN BS BM CE OP : Addr}
def spGood : Sp := fun vs H Q _ => ∃ (n : Str) (t u : Int) (nm : Bool) (st : Addr) (xs : List V) (ds : List PyData) (ls : List Lk), vs = [.str n, .ref st, .bl nm, .int t, .int u] ∧ nameS n = true ∧ H st = some (.lst xs) ∧ DqAll H xs ds ∧ GoodRs ds ls ∧ IsF ls none ∧ 1 ≤ ds.length ∧ ds.length ≤ 80 ∧ 0 ≤ t ∧ t < 5 ∧ 0 ≤ u ∧ u < 10 ∧ ∀ H', Kp [] H H' → Q (.bl true) H'
theorem ok_law_good {f : Addr} {fd : FuncData} (D : Df K mg "_law_good" s_law_good ["_law_name", "_law_steps_here", "_law_named", "_law_rounds", "_law_last"] f fd) (T : BtGd mg) (O : OpC K mg OP) {fI fS : Addr} {fdI fdS : FuncData} {dsO : List Value} {g : List Value → List Value → List Value} (M_Operation : Mk K OP fI) (hd_Operation : Vals [.int 1, .int 0] dsO) (bD_Operation : Binds K fdI ["self", "name", "steps", "turns", "otherwise"] dsO)
    (kb_Operation : KBn K fdI ["self", "name", "steps", "turns", "otherwise"] 3 ["turns", "otherwise"] g (fun vs zs => vs ++ zs)) (G_Operation_init : FnOk P w K mg base (L2N.CX P w) 7 fI fdI ["self", "name", "steps", "turns", "otherwise"] (spOpA K OP BS BN BM)) (ME_Operation_steps : Meth K OP "steps" fS) (bM_Operation_steps : Binds K fdS ["self"] []) (G_Operation_steps : FnOk P w K mg base CX0 1 fS fdS ["self"] (spOpSteps OP)) : FnG P w K mg base (L2.CX P w) 9 f fd ["_law_name", "_law_steps_here", "_law_named", "_law_rounds", "_law_last"] spGood := by
  refine FnG.ok D.F sc_law_good (fun vs H Q E h => ?_) (fun cdv A outer s H vs Q E gd0 hr h => ?_)
  · obtain ⟨_, _, _, _, _, _, _, _, rfl, _⟩ := h
    rfl
  · obtain ⟨n, t, u, nm, st, xs, ds, ls, rfl, gn, hS, hds, gr, lk, l1, l80, t0, t5, u0, u10, q⟩ := h
    have gd := And.intro gd0 hr.units
    refine ⟨_, (pss_cons (ps_set (i := 5) sc_law_good.nd rfl (Or.inl rfl) (pe_callTy call_list_of (by rfl) T.b_list (by decide +kernel) (pa_cons (pv 1) pa_nil)))
      (pss_cons (ps_if (pt_val (pv 2)) (pss_one (ps_set (i := 6) sc_law_good.nd rfl (Or.inl rfl) (pe_makeK (n := 2) M_Operation G_Operation_init (hr.mono (by decide)) rfl O.k kb_Operation passLN (pa_cons (pv 0) (pa_cons (pv 5) pa_nil)) (pk_cons (pv 3) (pk_cons (pv 4) pk_nil))))) (pss_cons (ps_set (i := 6) sc_law_good.nd rfl (Or.inl rfl) (pe_make M_Operation G_Operation_init (hr.mono (by decide)) rfl O.k bD_Operation hd_Operation passLN (pa_cons (pv 0) (pa_cons (pv 5) pa_nil))))
      (pss_cons (ps_set (i := 3) sc_law_good.nd rfl (Or.inl rfl) pe_int)
      (pss_one (ps_set (i := 4) sc_law_good.nd rfl (Or.inl rfl) pe_int)))))
      (pss_cons (ps_if (pt_cmpR op_ne (pe_callB (id := "repr") (r := rReprA) (call_reprA gd) (by rfl) T.b_repr (by decide +kernel) (pa_cons (pv 5) pa_nil)) (pe_callB (id := "repr") (r := rReprA) (call_reprA gd) (by rfl) T.b_repr (by decide +kernel) (pa_cons (pv 1) pa_nil)) (nomark _)) (pss_one (ps_ret pe_bl)) pss_nil)
      (pss_cons (ps_expr (pe_bm0 PySem.F.plainAttrs_list PySem.F.slot_list_clear PySem.F.type_list_clear mt_clear (pv 5)))
      (pss_cons (ps_set (i := 7) sc_law_good.nd rfl (Or.inl rfl) (pe_meth0 (pv 6) O.cl ME_Operation_steps G_Operation_steps (hr.mono (by decide)) bM_Operation_steps .nil pass0))
      (pss_cons (ps_if (pt_cmpR op_ne (pe_callB (id := "repr") (r := rReprA) (call_reprA gd) (by rfl) T.b_repr (by decide +kernel) (pa_cons (pe_lst (pa_cons (pe_fld (pv 6) rfl) (pa_cons (pe_fld (pv 6) rfl) (pa_cons (pe_fld (pv 6) rfl) (pa_cons (pv 7) pa_nil))))) pa_nil)) (pe_callB (id := "repr") (r := rReprA) (call_reprA gd) (by rfl) T.b_repr (by decide +kernel) (pa_cons (pe_lst (pa_cons (pv 0) (pa_cons (pv 3) (pa_cons (pv 4) (pa_cons (pv 1) pa_nil))))) pa_nil)) (nomark _)) (pss_one (ps_ret pe_bl)) pss_nil)
      (pss_cons (ps_expr (pe_bm0 PySem.F.plainAttrs_list PySem.F.slot_list_clear PySem.F.type_list_clear mt_clear (pv 7)))
      (pss_one (ps_ret (pe_cmpR op_eq (pe_callB (id := "repr") (r := rReprA) (call_reprA gd) (by rfl) T.b_repr (by decide +kernel) (pa_cons (pe_meth0 (pv 6) O.cl ME_Operation_steps G_Operation_steps (hr.mono (by decide)) bM_Operation_steps .nil pass0) pa_nil)) (pe_callB (id := "repr") (r := rReprA) (call_reprA gd) (by rfl) T.b_repr (by decide +kernel) (pa_cons (pv 1) pa_nil)) (nomark _))))))))))), ?_⟩
    try simp (maxSteps := 1000000) only [tSeq, tIfS, tTest, tOp, tUn, tCB, tCons, tNil, tVar, tC, rI0, rI, rU, rEq, rNe, tRet, tRetN, tAsg, gName, gSub, tBM, tBM0, tNext, tB, tNot, tAnd, tOr, tIf, tCall, tDrop, tBreak, tCont, L2.start, tDGet, sDPut, tTup, tLst, tDNewK, tRevL, rCat, rAppend, rPop, rSetL, tAndV, tOrV, tNotV, tSl, tPart, tNoPart, tM1, gTup, gCons, gNil, cxK, cxnK, List.map_cons, List.map_nil, List.length_cons, List.length_nil, List.replicate, List.cons_append, List.nil_append, List.append_nil, List.set_cons_zero, List.set_cons_succ, List.getElem?_cons_zero, List.getElem?_cons_succ, Option.some.injEq, V.ref.injEq, V.int.injEq, V.str.injEq, V.bl.injEq, V.ty.injEq, exists_eq_left', exists_eq_left, exists_and_left, List.cons.injEq, and_true, true_and, sc_ii, sc_ss, sc_bb, sc_ni, sc_in, sc_is, sc_si, sc_nn, decide_true, decide_false, reduceCtorEq, Bool.false_eq_true, if_true, if_false, ite_true, ite_false, exists_const, eq_self, false_and, and_false, or_false, false_or, exists_false, Evl.rLenS, rSum, wipe, tYes, exists_eq, exists_eq', rIxL, rIxT, rIxS, exists_and_right, gt_iff_lt, not_true_eq_false, not_false_eq_true, Bool.not_true, Bool.not_false, decide_eq_true_eq, Nat.reduceSub, Nat.reduceAdd, List.append_assoc, tChain, tDIn, tDNotIn, sDDel, tAug, ipI]
    refine ⟨xs, .inl (sq_l hS), fun p np => ?_⟩
    have kp := (Kp.new np : Kp [] H (upd H p (.lst xs)))
    have hp : (upd H p (.lst xs)) p = some (.lst xs) := upd_same
    have shl : Sh 60 1000000 (.list ds) := (sh_lst fun d hd => (gr.mem d hd).2.2).mono (by decide) (by omega)
    have sh4 : ∀ {i j : Int}, i.natAbs < 1000 → j.natAbs < 1000 → Sh 60 1000000 (.list [.str n, .int i, .int j, .list ds]) := fun {i j} hi hj => by
      have s1 : Sh 8 200000 (.list ds) := (sh_lst fun d hd => (gr.mem d hd).2.2).mono (by decide) (by omega)
      refine (sh_lst (k := 8) (b := 200000) fun d hd => ?_).mono (by decide) (by show 200001 * 4 ≤ 1000000; decide)
      simp only [List.mem_cons, List.not_mem_nil, or_false] at hd
      rcases hd with rfl | rfl | rfl | rfl
      · exact (sh_name gn).mono (by decide) (by decide)
      · exact (sh_int hi).mono (by decide) (by decide)
      · exact (sh_int hj).mono (by decide) (by decide)
      · exact s1
    cases nm with
    | true =>
      try simp (maxSteps := 1000000) only [tSeq, tIfS, tTest, tOp, tUn, tCB, tCons, tNil, tVar, tC, rI0, rI, rU, rEq, rNe, tRet, tRetN, tAsg, gName, gSub, tBM, tBM0, tNext, tB, tNot, tAnd, tOr, tIf, tCall, tDrop, tBreak, tCont, L2.start, tDGet, sDPut, tTup, tLst, tDNewK, tRevL, rCat, rAppend, rPop, rSetL, tAndV, tOrV, tNotV, tSl, tPart, tNoPart, tM1, gTup, gCons, gNil, cxK, cxnK, List.map_cons, List.map_nil, List.length_cons, List.length_nil, List.replicate, List.cons_append, List.nil_append, List.append_nil, List.set_cons_zero, List.set_cons_succ, List.getElem?_cons_zero, List.getElem?_cons_succ, Option.some.injEq, V.ref.injEq, V.int.injEq, V.str.injEq, V.bl.injEq, V.ty.injEq, exists_eq_left', exists_eq_left, exists_and_left, List.cons.injEq, and_true, true_and, sc_ii, sc_ss, sc_bb, sc_ni, sc_in, sc_is, sc_si, sc_nn, decide_true, decide_false, reduceCtorEq, Bool.false_eq_true, if_true, if_false, ite_true, ite_false, exists_const, eq_self, false_and, and_false, or_false, false_or, exists_false, Evl.rLenS, rSum, wipe, tYes, exists_eq, exists_eq', rIxL, rIxT, rIxS, exists_and_right, gt_iff_lt, not_true_eq_false, not_false_eq_true, Bool.not_true, Bool.not_false, decide_eq_true_eq, Nat.reduceSub, Nat.reduceAdd, List.append_assoc, tChain, tDIn, tDNotIn, sDDel, tAug, ipI, tMakeK]
      intro x dx nx ndx hne
      refine told_core (dt := .int t) (dw := .int u) (.str n) (nameS_sz gn) hp (DqAll.kp kp hds) (fun d hd => ⟨(gr.mem d hd).1, (gr.mem d hd).2.1⟩) (by omega) (.int _) rfl (.int _) rfl (fun _ => gr.steps (DqAll.kp kp hds)) nx ndx hne (fun h => ?_) (fun k _ h => ?_) (fun u' d _ _ _ _ _ h => ?_) (fun _ _ _ _ _ _ _ l H' nl0 ho hl k => ?_)
      · rw [show nameD (.str n) = true from gn] at h; cases h
      · rcases h with ⟨h, _⟩ | ⟨h, _⟩ | ⟨_, _, ⟨d, ed, hb⟩, _⟩ | ⟨_, _, _, h⟩
        · rw [h] at l1; cases l1
        · omega
        · rw [gr.all k d ed] at hb; cases hb
        · cases h.uniq lk
      · rcases h with ⟨h, _⟩ | ⟨_, h, _⟩
        · rw [show belowD 5 (.int t) = true from by show (decide (0 ≤ t) && decide (t < 5)) = true; rw [decide_eq_true t0, decide_eq_true t5]; rfl] at h; cases h
        · rw [show belowD 10 (.int u) = true from by show (decide (0 ≤ u) && decide (u < 10)) = true; rw [decide_eq_true u0, decide_eq_true u10]; rfl] at h; cases h
      · refine ⟨rfl, ?_⟩
        have k0 := kp.trans k
        have hp' := k _ _ not0 hp
        have hds' := DqAll.kp k0 hds
        have hS' := k0 _ _ not0 hS
        refine ⟨_, .list ds, rfl, .lst hp' hds', shl, _, .list ds, rfl, .lst hS' hds', shl, rfl, ?_⟩
        rw [if_neg (by simp)]
        refine ⟨.inl ⟨rfl, _, sq_l hp'⟩, ?_⟩
        have pl : p ≠ l := fun z => by rw [← z, hp] at nl0; cases nl0
        have px : p ≠ x := fun z => by rw [z, ho] at hp'; cases hp'
        try simp (maxSteps := 1000000) only [tSeq, tIfS, tTest, tOp, tUn, tCB, tCons, tNil, tVar, tC, rI0, rI, rU, rEq, rNe, tRet, tRetN, tAsg, gName, gSub, tBM, tBM0, tNext, tB, tNot, tAnd, tOr, tIf, tCall, tDrop, tBreak, tCont, L2.start, tDGet, sDPut, tTup, tLst, tDNewK, tRevL, rCat, rAppend, rPop, rSetL, tAndV, tOrV, tNotV, tSl, tPart, tNoPart, tM1, gTup, gCons, gNil, cxK, cxnK, List.map_cons, List.map_nil, List.length_cons, List.length_nil, List.replicate, List.cons_append, List.nil_append, List.append_nil, List.set_cons_zero, List.set_cons_succ, List.getElem?_cons_zero, List.getElem?_cons_succ, Option.some.injEq, V.ref.injEq, V.int.injEq, V.str.injEq, V.bl.injEq, V.ty.injEq, exists_eq_left', exists_eq_left, exists_and_left, List.cons.injEq, and_true, true_and, sc_ii, sc_ss, sc_bb, sc_ni, sc_in, sc_is, sc_si, sc_nn, decide_true, decide_false, reduceCtorEq, Bool.false_eq_true, if_true, if_false, ite_true, ite_false, exists_const, eq_self, false_and, and_false, or_false, false_or, exists_false, Evl.rLenS, rSum, wipe, tYes, exists_eq, exists_eq', rIxL, rIxT, rIxS, exists_and_right, gt_iff_lt, not_true_eq_false, not_false_eq_true, Bool.not_true, Bool.not_false, decide_eq_true_eq, Nat.reduceSub, Nat.reduceAdd, List.append_assoc, tChain, tDIn, tDNotIn, sDDel, tAug, ipI, rClear]
        refine ⟨⟨_, hp'⟩, ?_⟩
        have kA := k0.wr np (o := .lst [])
        have ho1 : (upd H' p (.lst [])) x = some (.ins OP dx (opFs (.str n) (.int t) (.int u) l)) := by rw [upd_ne (Ne.symm px)]; exact ho
        have hl1 : (upd H' p (.lst [])) l = some (.lst xs) := by rw [upd_ne (Ne.symm pl)]; exact hl
        generalize upd H' p (.lst []) = A1 at kA ho1 hl1 ⊢
        try simp (maxSteps := 1000000) only [tSeq, tIfS, tTest, tOp, tUn, tCB, tCons, tNil, tVar, tC, rI0, rI, rU, rEq, rNe, tRet, tRetN, tAsg, gName, gSub, tBM, tBM0, tNext, tB, tNot, tAnd, tOr, tIf, tCall, tDrop, tBreak, tCont, L2.start, tDGet, sDPut, tTup, tLst, tDNewK, tRevL, rCat, rAppend, rPop, rSetL, tAndV, tOrV, tNotV, tSl, tPart, tNoPart, tM1, gTup, gCons, gNil, cxK, cxnK, List.map_cons, List.map_nil, List.length_cons, List.length_nil, List.replicate, List.cons_append, List.nil_append, List.append_nil, List.set_cons_zero, List.set_cons_succ, List.getElem?_cons_zero, List.getElem?_cons_succ, Option.some.injEq, V.ref.injEq, V.int.injEq, V.str.injEq, V.bl.injEq, V.ty.injEq, exists_eq_left', exists_eq_left, exists_and_left, List.cons.injEq, and_true, true_and, sc_ii, sc_ss, sc_bb, sc_ni, sc_in, sc_is, sc_si, sc_nn, decide_true, decide_false, reduceCtorEq, Bool.false_eq_true, if_true, if_false, ite_true, ite_false, exists_const, eq_self, false_and, and_false, or_false, false_or, exists_false, Evl.rLenS, rSum, wipe, tYes, exists_eq, exists_eq', rIxL, rIxT, rIxS, exists_and_right, gt_iff_lt, not_true_eq_false, not_false_eq_true, Bool.not_true, Bool.not_false, decide_eq_true_eq, Nat.reduceSub, Nat.reduceAdd, List.append_assoc, tChain, tDIn, tDNotIn, sDDel, tAug, ipI, tMeth, tFld]
        refine ⟨dx, _, ho1, rfl, x, dx, l, .str n, .int t, .int u, xs, rfl, ho1, hl1, fun p1 n1 => ?_⟩
        have k2 := (Kp.new n1 : Kp [] A1 (upd A1 p1 (.lst xs)))
        have h21 : (upd A1 p1 (.lst xs)) p1 = some (.lst xs) := upd_same
        generalize upd A1 p1 (.lst xs) = A2 at k2 h21 ⊢
        have ho2 := k2 _ _ not0 ho1
        refine ⟨OP, dx, _, ho2, O.cl, O.n1, .str n, rfl, OP, dx, _, ho2, O.cl, O.n2, .int t, rfl, OP, dx, _, ho2, O.cl, O.n3, .int u, rfl, small (by decide), fun p2 n2 => ?_⟩
        have k3 := (Kp.new n2 : Kp [] A2 (upd A2 p2 (.lst [.str n, .int t, .int u, .ref p1])))
        have h32 : (upd A2 p2 (.lst [.str n, .int t, .int u, .ref p1])) p2 = some (.lst [.str n, .int t, .int u, .ref p1]) := upd_same
        generalize upd A2 p2 (.lst [.str n, .int t, .int u, .ref p1]) = A3 at k3 h32 ⊢
        have k13 := k2.trans k3
        have d3 := DqAll.kp (kA.trans k13) hds
        refine ⟨_, .list [.str n, .int t, .int u, .list ds], rfl, .lst h32 (.cons (.str n) (.cons (.int _) (.cons (.int _) (.cons (.lst (k3 _ _ not0 h21) d3) .nil)))), sh4 (by omega) (by omega), small (by decide), fun p3 n3 => ?_⟩
        have k4 := (Kp.new n3 : Kp [] A3 (upd A3 p3 (.lst [.str n, .int t, .int u, .ref st])))
        have h43 : (upd A3 p3 (.lst [.str n, .int t, .int u, .ref st])) p3 = some (.lst [.str n, .int t, .int u, .ref st]) := upd_same
        generalize upd A3 p3 (.lst [.str n, .int t, .int u, .ref st]) = A4 at k4 h43 ⊢
        have k14 := k13.trans k4
        have kH4 := kA.trans k14
        have d4 := DqAll.kp kH4 hds
        refine ⟨_, .list [.str n, .int t, .int u, .list ds], rfl, .lst h43 (.cons (.str n) (.cons (.int _) (.cons (.int _) (.cons (.lst (kH4 _ _ not0 hS) d4) .nil)))), sh4 (by omega) (by omega), rfl, ?_⟩
        rw [if_neg (by simp)]
        have h41 := (k3.trans k4) _ _ not0 h21
        refine ⟨.inl ⟨rfl, _, sq_l h41⟩, p1, rfl, ⟨_, h41⟩, ?_⟩
        have k15 := k14.wr n1 (o := .lst [])
        generalize upd A4 p1 (.lst []) = A5 at k15 ⊢
        have ho5 := k15 _ _ not0 ho1
        have hl5 := k15 _ _ not0 hl1
        refine ⟨dx, _, ho5, rfl, x, dx, l, .str n, .int t, .int u, xs, rfl, ho5, hl5, fun p4 n4 => ?_⟩
        have k6 := (Kp.new n4 : Kp [] A5 (upd A5 p4 (.lst xs)))
        have kH6 := (kA.trans k15).trans k6
        have d6 := DqAll.kp kH6 hds
        refine ⟨_, .list ds, rfl, .lst upd_same d6, shl, _, .list ds, rfl, .lst (kH6 _ _ not0 hS) d6, shl, rfl, ?_⟩
        rw [decide_eq_true rfl]
        exact q _ kH6
    | false =>
      try simp (maxSteps := 1000000) only [tSeq, tIfS, tTest, tOp, tUn, tCB, tCons, tNil, tVar, tC, rI0, rI, rU, rEq, rNe, tRet, tRetN, tAsg, gName, gSub, tBM, tBM0, tNext, tB, tNot, tAnd, tOr, tIf, tCall, tDrop, tBreak, tCont, L2.start, tDGet, sDPut, tTup, tLst, tDNewK, tRevL, rCat, rAppend, rPop, rSetL, tAndV, tOrV, tNotV, tSl, tPart, tNoPart, tM1, gTup, gCons, gNil, cxK, cxnK, List.map_cons, List.map_nil, List.length_cons, List.length_nil, List.replicate, List.cons_append, List.nil_append, List.append_nil, List.set_cons_zero, List.set_cons_succ, List.getElem?_cons_zero, List.getElem?_cons_succ, Option.some.injEq, V.ref.injEq, V.int.injEq, V.str.injEq, V.bl.injEq, V.ty.injEq, exists_eq_left', exists_eq_left, exists_and_left, List.cons.injEq, and_true, true_and, sc_ii, sc_ss, sc_bb, sc_ni, sc_in, sc_is, sc_si, sc_nn, decide_true, decide_false, reduceCtorEq, Bool.false_eq_true, if_true, if_false, ite_true, ite_false, exists_const, eq_self, false_and, and_false, or_false, false_or, exists_false, Evl.rLenS, rSum, wipe, tYes, exists_eq, exists_eq', rIxL, rIxT, rIxS, exists_and_right, gt_iff_lt, not_true_eq_false, not_false_eq_true, Bool.not_true, Bool.not_false, decide_eq_true_eq, Nat.reduceSub, Nat.reduceAdd, List.append_assoc, tChain, tDIn, tDNotIn, sDDel, tAug, ipI, tMake]
      intro x dx nx ndx hne
      refine told_core (dt := .int 1) (dw := .int 0) (.str n) (nameS_sz gn) hp (DqAll.kp kp hds) (fun d hd => ⟨(gr.mem d hd).1, (gr.mem d hd).2.1⟩) (by omega) (.int _) rfl (.int _) rfl (fun _ => gr.steps (DqAll.kp kp hds)) nx ndx hne (fun h => ?_) (fun k _ h => ?_) (fun u' d _ _ _ _ _ h => ?_) (fun _ _ _ _ _ _ _ l H' nl0 ho hl k => ?_)
      · rw [show nameD (.str n) = true from gn] at h; cases h
      · rcases h with ⟨h, _⟩ | ⟨h, _⟩ | ⟨_, _, ⟨d, ed, hb⟩, _⟩ | ⟨_, _, _, h⟩
        · rw [h] at l1; cases l1
        · omega
        · rw [gr.all k d ed] at hb; cases hb
        · cases h.uniq lk
      · rcases h with ⟨h, _⟩ | ⟨_, h, _⟩
        · rw [show belowD 5 (.int 1) = true from rfl] at h; cases h
        · rw [show belowD 10 (.int 0) = true from rfl] at h; cases h
      · refine ⟨rfl, ?_⟩
        have k0 := kp.trans k
        have hp' := k _ _ not0 hp
        have hds' := DqAll.kp k0 hds
        have hS' := k0 _ _ not0 hS
        refine ⟨_, .list ds, rfl, .lst hp' hds', shl, _, .list ds, rfl, .lst hS' hds', shl, rfl, ?_⟩
        rw [if_neg (by simp)]
        refine ⟨.inl ⟨rfl, _, sq_l hp'⟩, ?_⟩
        have pl : p ≠ l := fun z => by rw [← z, hp] at nl0; cases nl0
        have px : p ≠ x := fun z => by rw [z, ho] at hp'; cases hp'
        try simp (maxSteps := 1000000) only [tSeq, tIfS, tTest, tOp, tUn, tCB, tCons, tNil, tVar, tC, rI0, rI, rU, rEq, rNe, tRet, tRetN, tAsg, gName, gSub, tBM, tBM0, tNext, tB, tNot, tAnd, tOr, tIf, tCall, tDrop, tBreak, tCont, L2.start, tDGet, sDPut, tTup, tLst, tDNewK, tRevL, rCat, rAppend, rPop, rSetL, tAndV, tOrV, tNotV, tSl, tPart, tNoPart, tM1, gTup, gCons, gNil, cxK, cxnK, List.map_cons, List.map_nil, List.length_cons, List.length_nil, List.replicate, List.cons_append, List.nil_append, List.append_nil, List.set_cons_zero, List.set_cons_succ, List.getElem?_cons_zero, List.getElem?_cons_succ, Option.some.injEq, V.ref.injEq, V.int.injEq, V.str.injEq, V.bl.injEq, V.ty.injEq, exists_eq_left', exists_eq_left, exists_and_left, List.cons.injEq, and_true, true_and, sc_ii, sc_ss, sc_bb, sc_ni, sc_in, sc_is, sc_si, sc_nn, decide_true, decide_false, reduceCtorEq, Bool.false_eq_true, if_true, if_false, ite_true, ite_false, exists_const, eq_self, false_and, and_false, or_false, false_or, exists_false, Evl.rLenS, rSum, wipe, tYes, exists_eq, exists_eq', rIxL, rIxT, rIxS, exists_and_right, gt_iff_lt, not_true_eq_false, not_false_eq_true, Bool.not_true, Bool.not_false, decide_eq_true_eq, Nat.reduceSub, Nat.reduceAdd, List.append_assoc, tChain, tDIn, tDNotIn, sDDel, tAug, ipI, rClear]
        refine ⟨⟨_, hp'⟩, ?_⟩
        have kA := k0.wr np (o := .lst [])
        have ho1 : (upd H' p (.lst [])) x = some (.ins OP dx (opFs (.str n) (.int 1) (.int 0) l)) := by rw [upd_ne (Ne.symm px)]; exact ho
        have hl1 : (upd H' p (.lst [])) l = some (.lst xs) := by rw [upd_ne (Ne.symm pl)]; exact hl
        generalize upd H' p (.lst []) = A1 at kA ho1 hl1 ⊢
        try simp (maxSteps := 1000000) only [tSeq, tIfS, tTest, tOp, tUn, tCB, tCons, tNil, tVar, tC, rI0, rI, rU, rEq, rNe, tRet, tRetN, tAsg, gName, gSub, tBM, tBM0, tNext, tB, tNot, tAnd, tOr, tIf, tCall, tDrop, tBreak, tCont, L2.start, tDGet, sDPut, tTup, tLst, tDNewK, tRevL, rCat, rAppend, rPop, rSetL, tAndV, tOrV, tNotV, tSl, tPart, tNoPart, tM1, gTup, gCons, gNil, cxK, cxnK, List.map_cons, List.map_nil, List.length_cons, List.length_nil, List.replicate, List.cons_append, List.nil_append, List.append_nil, List.set_cons_zero, List.set_cons_succ, List.getElem?_cons_zero, List.getElem?_cons_succ, Option.some.injEq, V.ref.injEq, V.int.injEq, V.str.injEq, V.bl.injEq, V.ty.injEq, exists_eq_left', exists_eq_left, exists_and_left, List.cons.injEq, and_true, true_and, sc_ii, sc_ss, sc_bb, sc_ni, sc_in, sc_is, sc_si, sc_nn, decide_true, decide_false, reduceCtorEq, Bool.false_eq_true, if_true, if_false, ite_true, ite_false, exists_const, eq_self, false_and, and_false, or_false, false_or, exists_false, Evl.rLenS, rSum, wipe, tYes, exists_eq, exists_eq', rIxL, rIxT, rIxS, exists_and_right, gt_iff_lt, not_true_eq_false, not_false_eq_true, Bool.not_true, Bool.not_false, decide_eq_true_eq, Nat.reduceSub, Nat.reduceAdd, List.append_assoc, tChain, tDIn, tDNotIn, sDDel, tAug, ipI, tMeth, tFld]
        refine ⟨dx, _, ho1, rfl, x, dx, l, .str n, .int 1, .int 0, xs, rfl, ho1, hl1, fun p1 n1 => ?_⟩
        have k2 := (Kp.new n1 : Kp [] A1 (upd A1 p1 (.lst xs)))
        have h21 : (upd A1 p1 (.lst xs)) p1 = some (.lst xs) := upd_same
        generalize upd A1 p1 (.lst xs) = A2 at k2 h21 ⊢
        have ho2 := k2 _ _ not0 ho1
        refine ⟨OP, dx, _, ho2, O.cl, O.n1, .str n, rfl, OP, dx, _, ho2, O.cl, O.n2, .int 1, rfl, OP, dx, _, ho2, O.cl, O.n3, .int 0, rfl, small (by decide), fun p2 n2 => ?_⟩
        have k3 := (Kp.new n2 : Kp [] A2 (upd A2 p2 (.lst [.str n, .int 1, .int 0, .ref p1])))
        have h32 : (upd A2 p2 (.lst [.str n, .int 1, .int 0, .ref p1])) p2 = some (.lst [.str n, .int 1, .int 0, .ref p1]) := upd_same
        generalize upd A2 p2 (.lst [.str n, .int 1, .int 0, .ref p1]) = A3 at k3 h32 ⊢
        have k13 := k2.trans k3
        have d3 := DqAll.kp (kA.trans k13) hds
        refine ⟨_, .list [.str n, .int 1, .int 0, .list ds], rfl, .lst h32 (.cons (.str n) (.cons (.int _) (.cons (.int _) (.cons (.lst (k3 _ _ not0 h21) d3) .nil)))), sh4 (by decide) (by decide), small (by decide), fun p3 n3 => ?_⟩
        have k4 := (Kp.new n3 : Kp [] A3 (upd A3 p3 (.lst [.str n, .int 1, .int 0, .ref st])))
        have h43 : (upd A3 p3 (.lst [.str n, .int 1, .int 0, .ref st])) p3 = some (.lst [.str n, .int 1, .int 0, .ref st]) := upd_same
        generalize upd A3 p3 (.lst [.str n, .int 1, .int 0, .ref st]) = A4 at k4 h43 ⊢
        have k14 := k13.trans k4
        have kH4 := kA.trans k14
        have d4 := DqAll.kp kH4 hds
        refine ⟨_, .list [.str n, .int 1, .int 0, .list ds], rfl, .lst h43 (.cons (.str n) (.cons (.int _) (.cons (.int _) (.cons (.lst (kH4 _ _ not0 hS) d4) .nil)))), sh4 (by decide) (by decide), rfl, ?_⟩
        rw [if_neg (by simp)]
        have h41 := (k3.trans k4) _ _ not0 h21
        refine ⟨.inl ⟨rfl, _, sq_l h41⟩, p1, rfl, ⟨_, h41⟩, ?_⟩
        have k15 := k14.wr n1 (o := .lst [])
        generalize upd A4 p1 (.lst []) = A5 at k15 ⊢
        have ho5 := k15 _ _ not0 ho1
        have hl5 := k15 _ _ not0 hl1
        refine ⟨dx, _, ho5, rfl, x, dx, l, .str n, .int 1, .int 0, xs, rfl, ho5, hl5, fun p4 n4 => ?_⟩
        have k6 := (Kp.new n4 : Kp [] A5 (upd A5 p4 (.lst xs)))
        have kH6 := (kA.trans k15).trans k6
        have d6 := DqAll.kp kH6 hds
        refine ⟨_, .list ds, rfl, .lst upd_same d6, shl, _, .list ds, rfl, .lst (kH6 _ _ not0 hS) d6, shl, rfl, ?_⟩
        rw [decide_eq_true rfl]
        exact q _ kH6
end
end My

set_option Elab.async false
set_option linter.all false
set_option maxRecDepth 100000
set_option maxHeartbeats 4000000
namespace My
open PySem L2 NdefX StX L2H
section
variable {dn t w d' : PyData} {ds : List PyData} {ls : List Lk}
abbrev bstep (dn : PyData) (k : Int) : PyData := .tuple [.str "BadStep", dn, .int k, .bool true]
theorem firstBad_uniq {i j : Nat} (h : FirstBad ds i) (g : FirstBad ds j) : i = j := by
  obtain ⟨⟨d, ed, bd⟩, h1⟩ := h
  obtain ⟨⟨e, ee, be⟩, g1⟩ := g
  rcases Nat.lt_trichotomy i j with z | z | z
  · rw [g1 i d z ed] at bd; cases bd
  · exact z
  · rw [h1 j e z ee] at be; cases be
theorem firstBad_all {i : Nat} (h : FirstBad ds i) (a : AllSt ds) : False := by
  obtain ⟨⟨d, ed, bd⟩, _⟩ := h
  rw [a i d ed] at bd; cases bd
theorem due_name (h : nameD dn = false) (D : Due dn ds ls t w d') : d' = .tuple [.str "BadName", dn, .bool true] := by
  cases D with
  | name _ => rfl
  | step k n _ => rw [h] at n; cases n
  | num u n _ _ _ _ _ => rw [h] at n; cases n
  | made n _ _ _ _ _ _ => rw [h] at n; cases n
theorem due_zero (h : nameD dn = true) (l0 : ds.length = 0) (D : Due dn ds ls t w d') : d' = bstep dn 0 := by
  cases D with
  | name n => rw [h] at n; cases n
  | step k _ c =>
    rcases c with ⟨_, rfl⟩ | ⟨c, _⟩ | ⟨c, _⟩ | ⟨c, _⟩
    · rfl
    · omega
    · omega
    · omega
  | num u _ c _ _ _ _ => omega
  | made _ c _ _ _ _ _ => omega
theorem due_many (h : nameD dn = true) (l0 : 80 < ds.length) (D : Due dn ds ls t w d') : d' = bstep dn 80 := by
  cases D with
  | name n => rw [h] at n; cases n
  | step k _ c =>
    rcases c with ⟨c, _⟩ | ⟨_, rfl⟩ | ⟨_, c, _⟩ | ⟨_, c, _⟩
    · rw [c] at l0; cases l0
    · rfl
    · omega
    · omega
  | num u _ _ c _ _ _ => omega
  | made _ _ c _ _ _ _ => omega
theorem due_bad {k : Nat} (h : nameD dn = true) (l1 : 1 ≤ ds.length) (l80 : ds.length ≤ 80) (fb : FirstBad ds k) (D : Due dn ds ls t w d') : d' = bstep dn k := by
  cases D with
  | name n => rw [h] at n; cases n
  | step j _ c =>
    rcases c with ⟨c, _⟩ | ⟨c, _⟩ | ⟨_, _, c⟩ | ⟨_, _, c, _⟩
    · rw [c] at l1; cases l1
    · omega
    · rw [firstBad_uniq c fb]
    · exact (firstBad_all fb c).elim
  | num u _ _ _ c _ _ => exact (firstBad_all fb c).elim
  | made _ _ _ c _ _ _ => exact (firstBad_all fb c).elim
theorem due_wrong {k : Nat} (h : nameD dn = true) (l1 : 1 ≤ ds.length) (l80 : ds.length ≤ 80) (a : AllSt ds) (f : IsF ls (some k)) (D : Due dn ds ls t w d') : d' = bstep dn k := by
  cases D with
  | name n => rw [h] at n; cases n
  | step j _ c =>
    rcases c with ⟨c, _⟩ | ⟨c, _⟩ | ⟨_, _, c⟩ | ⟨_, _, _, c⟩
    · rw [c] at l1; cases l1
    · omega
    · exact (firstBad_all c a).elim
    · cases c.uniq f; rfl
  | num u _ _ _ _ c _ => cases c.uniq f
  | made _ _ _ _ c _ _ => cases c.uniq f
theorem due_rest (h : nameD dn = true) (l1 : 1 ≤ ds.length) (l80 : ds.length ≤ 80) (a : AllSt ds) (f : IsF ls none) (D : Due dn ds ls t w d') : (belowD 5 t = false ∧ d' = .tuple [.str "BadNumber", t, .bool true]) ∨ (belowD 5 t = true ∧ belowD 10 w = false ∧ d' = .tuple [.str "BadNumber", w, .bool true]) ∨ (belowD 5 t = true ∧ belowD 10 w = true ∧ d' = .tuple [.str "made", dn, t, w, .list ds]) := by
  cases D with
  | name n => rw [h] at n; cases n
  | step j _ c =>
    rcases c with ⟨c, _⟩ | ⟨c, _⟩ | ⟨_, _, c⟩ | ⟨_, _, _, c⟩
    · rw [c] at l1; cases l1
    · omega
    · exact (firstBad_all c a).elim
    · cases c.uniq f
  | num u _ _ _ _ _ c =>
    rcases c with ⟨c, rfl⟩ | ⟨c, c', rfl⟩
    · exact .inl ⟨c, rfl⟩
    · exact .inr (.inl ⟨c, c', rfl⟩)
  | made _ _ _ _ _ c c' => exact .inr (.inr ⟨c, c', rfl⟩)
end
/-- where some are spoilt, the least place of them is the first -/
theorem mixed_first {ds : List PyData} {ls : List Lk} {b : Int} {r : List Int} (h : Mixed ds ls (b :: r)) (s : (b :: r).Pairwise (· ≤ ·)) (hb : 0 ≤ b ∧ b < (ds.length : Nat)) : FirstBad ds b.toNat := by
  have eb : ((b.toNat : Nat) : Int) = b := Int.toNat_of_nonneg hb.1
  have hl : b.toNat < ds.length := by omega
  have ed := List.getElem?_eq_getElem hl
  refine ⟨⟨_, ed, ?_⟩, fun j d hj ej => ?_⟩
  · rcases h.2 _ _ ed with ⟨_, g⟩ | ⟨m, _⟩
    · exact g.no
    · rw [eb] at m
      exact absurd List.mem_cons_self m
  · rcases h.2 j d ej with ⟨m, _⟩ | ⟨_, l, _, g⟩
    · rw [List.pairwise_cons] at s
      rcases List.mem_cons.mp m with z | z
      · omega
      · have := s.1 _ z
        omega
    · exact g.any.1
theorem mixed_all {ds : List PyData} {ls : List Lk} {bad : List Int} (h : Mixed ds ls bad) (rng : ∀ b ∈ bad, 0 ≤ b ∧ b < (ds.length : Nat)) (a : AllSt ds) : bad = [] := by
  cases bad with
  | nil => rfl
  | cons b r =>
    obtain ⟨h0, h1⟩ := rng b List.mem_cons_self
    have hl : b.toNat < ds.length := by omega
    have ed := List.getElem?_eq_getElem hl
    have eb : ((b.toNat : Nat) : Int) = b := Int.toNat_of_nonneg h0
    rcases h.2 _ _ ed with ⟨_, g⟩ | ⟨m, _⟩
    · have := a _ _ ed
      rw [g.no] at this; cases this
    · rw [eb] at m
      exact absurd List.mem_cons_self m
theorem mixed_ok {ds : List PyData} {ls : List Lk} {bad : List Int} (h : Mixed ds ls bad) : ∀ d ∈ ds, szD d = true ∧ okA d ∧ Sh 7 1407 d := fun d hd => by
  obtain ⟨i, ei⟩ := List.getElem?_of_mem hd
  rcases h.2 i d ei with ⟨_, g⟩ | ⟨_, l, _, g⟩
  · exact ⟨g.sz, g.ok, g.sh⟩
  · exact ⟨g.any.2.2.1, g.any.2.1, g.any.2.2.2⟩
theorem ixn {zs : List Str} {i : Nat} {z : Str} (e : zs[i]? = some z) : atI (zs.map V.str) ((i : Nat) : Int) = some (.str z) := atI_nat (by rw [List.getElem?_map, e]; rfl)
/-- behind the settling of what is due, as far as C goes -/
def LwInv (sa a nl st bl : Addr) (sz : Nat) (nm : Bool) (r : Int) (n : Str) (ds : List PyData) (ls : List Lk) (C : Prop) (Gd : PyData → PyData → Prop) (H0 : Hp) (σ : L2.St) (H : Hp) : Prop := ∃ (tv uv dv : V) (dt du dd : PyData), σ = [some (.ref sa), some (.ref a), some (.ref nl), some (.int (sz : Nat)), some (.ref st), some tv, some uv, some (.bl nm), some (.ref bl), some (.int r), some (.str n), some dv, none, none] ∧
  (∀ G, Dq G tv dt) ∧ szD dt = true ∧ (∀ G, Dq G uv du) ∧ szD du = true ∧ Dq (wo [a] H) dv dd ∧ Sh 10 900000 dd ∧ (C → ∀ d', Due (.str n) ds ls (if nm then dt else .int 1) (if nm then du else .int 0) d' → d' = dd) ∧ Gd dt du ∧ RowAt H a ∧ Kp [a] H0 H
theorem sh_bstep {n : Str} {k : Int} (g : nameS n = true) (hk : k.natAbs < 5000) : Sh 10 900000 (bstep (.str n) k) := by
  refine (sh_tup (k := 1) (b := 8) fun d hd => ?_).mono (by decide) (by show 9 * 4 ≤ 900000; decide)
  simp only [List.mem_cons, List.not_mem_nil, or_false] at hd
  rcases hd with rfl | rfl | rfl | rfl
  · exact sh_strO (by decide +kernel) (by decide +kernel)
  · exact sh_name g
  · exact (sh_intB hk).mono (by decide) (by decide)
  · exact sh_bool.mono (by decide) (by decide)
theorem sh_num {d : PyData} (h : Sh 1 8 d) : Sh 10 900000 (.tuple [.str "BadNumber", d, .bool true]) := by
  refine (sh_tup (k := 1) (b := 20) fun e hd => ?_).mono (by decide) (by show 21 * 3 ≤ 900000; decide)
  simp only [List.mem_cons, List.not_mem_nil, or_false] at hd
  rcases hd with rfl | rfl | rfl
  · exact (sh_strO (b := 20) (by decide +kernel) (by decide +kernel))
  · exact h.mono (by decide) (by decide)
  · exact sh_bool.mono (by decide) (by decide)
theorem sh_made {n : Str} {t u : Int} {ds : List PyData} (g : nameS n = true) (ht : t.natAbs < 1000) (hu : u.natAbs < 1000) (h : ∀ d ∈ ds, Sh 7 1407 d) (hl : ds.length ≤ 120) : Sh 10 900000 (.tuple [.str "made", .str n, .int t, .int u, .list ds]) := by
  have s1 : Sh 8 169000 (.list ds) := (sh_lst h).mono (by decide) (by omega)
  refine (sh_tup (k := 8) (b := 169000) fun e hd => ?_).mono (by decide) (by show 169001 * 5 ≤ 900000; decide)
  simp only [List.mem_cons, List.not_mem_nil, or_false] at hd
  rcases hd with rfl | rfl | rfl | rfl | rfl
  · exact (sh_strO (b := 8) (by decide +kernel) (by decide +kernel)).mono (by decide) (by decide)
  · exact (sh_name g).mono (by decide) (by decide)
  · exact (sh_int ht).mono (by decide) (by decide)
  · exact (sh_int hu).mono (by decide) (by decide)
  · exact s1
theorem LwInv.mv {sa a nl st bl : Addr} {sz : Nat} {nm : Bool} {r : Int} {n : Str} {ds : List PyData} {ls : List Lk} {C C' : Prop} {Gd Gd' : PyData → PyData → Prop} {H0 H H' : Hp} {σ : L2.St} (h : LwInv sa a nl st bl sz nm r n ds ls C Gd H0 σ H) (k : Kp [a] H H') (ra : RowAt H' a) (c : C' → C) (g : ∀ t u, Gd t u → Gd' t u) : LwInv sa a nl st bl sz nm r n ds ls C' Gd' H0 σ H' := by
  obtain ⟨tv, uv, dv, dt, du, dd, e, h1, h2, h3, h4, h5, h6, h7, h8, h9, h10⟩ := h
  exact ⟨tv, uv, dv, dt, du, dd, e, h1, h2, h3, h4, h5.kp (wo_kp k), h6, fun x => h7 (c x), g _ _ h8, ra, h10.trans k⟩
theorem odd_sh {v : V} {d : PyData} {H : Hp} (h : Dq H v d) (sc : scD d = true) (st : isStrD d = false) (b : ∀ i, d = .int i → i.natAbs ≤ 2000) : Sh 1 8 d := by
  cases h with
  | int j => exact (sh_intB (by have := b j rfl; omega)).mono (by decide) (by decide)
  | bl c => exact sh_bool.mono (by decide) (by decide)
  | non => exact sh_none.mono (by decide) (by decide)
  | str z => cases st
  | lst _ _ => cases sc
  | tup _ _ => cases sc
end My

set_option Elab.async false
set_option linter.all false
set_option maxRecDepth 100000
set_option maxHeartbeats 4000000
namespace My
open PySem L2 NdefX StX L2H
abbrev s_law : Stmt := top 44
theorem sc_law : FnScope ["_law_script", "_law_row_here", "_law_names_here", "_law_size_here", "_law_steps_here", "_law_rounds", "_law_last", "_law_named", "_law_bad", "_law_wrong", "_law_name", "_law_due", "_law_handed", "_law_told_here"] ["_law_script"] (defScope s_law) := ⟨rfl, rfl, rfl, by decide +kernel, rfl, by decide +kernel, by decide +kernel⟩
theorem nm_name {z : Str} (h : Nm z) : nameS z = true := by
  obtain ⟨l, h1, h8⟩ := h
  unfold nameS
  rw [decide_eq_true h1, decide_eq_true h8]
  refine List.all_eq_true.mpr fun c hc => ?_
  obtain ⟨a, b⟩ := l c hc
  unfold lowC
  rw [decide_eq_true a, decide_eq_true b]; rfl
theorem nms_sub {H H' : Hp} {a p : Addr} {zs ys : List Str} (h : NmsAt H a zs) (sub : ∀ z ∈ ys, z ∈ zs) (l1 : 1 ≤ ys.length) (l11 : ys.length ≤ 11) (e : H' p = some (.lst (ys.map V.str))) : NmsAt H' p ys := ⟨e, l1, l11, fun z hz => h.2.2.2 z (sub z hz)⟩
theorem cut5 {zs : List Str} : cutV (zs.map V.str) (some 5) none = (zs.drop 5).map V.str := by
  rw [show (some (5 : Int)) = some (((5 : Nat) : Int)) from rfl, cut_from, List.map_drop]
theorem cut14 {zs : List Str} (h : zs.length = 11) : cutV (zs.map V.str) (some 1) (some 4) = ((zs.drop 1).take 3).map V.str := by
  unfold cutV
  rw [show (some (1 : Int)) = some (((1 : Nat) : Int)) from rfl, show (some (4 : Int)) = some (((4 : Nat) : Int)) from rfl, HT.sIx_nat, HT.sIx_nat, List.length_map, h, List.map_take, List.map_drop]
  rfl
structure BtLw (mg : Str → Option Value) : Prop where
  b_len : mg "len" = none
  b_list : mg "list" = none
  b_repr : mg "repr" = none
section
variable {P : Program} {w : World} {K : PySem.W.Frag} {mg : Str → Option Value} {base : Heap} {BN BS BM CE OP : Addr}
def spLaw (K : PySem.W.Frag) : Sp := fun vs H Q _ => ∃ (a : Addr) (ns : List Int), vs = [.ref a] ∧ SqL K H a (ns.map V.int) ∧ ns.length ≤ 63 ∧ ∀ H', Q (.bl true) H'
theorem ok_law {f : Addr} {fd : FuncData} (D : Df K mg "law" s_law ["_law_script"] f fd) (T : BtLw mg)
    {f1 : Addr} {fd1 : FuncData} (D_law_row : Df K mg "_law_row" s_law_row ["_law_script"] f1 fd1) (G_law_row : FnOk P w K mg base CX0 1 f1 fd1 ["_law_script"] (spRow K))
    {f2 : Addr} {fd2 : FuncData} (D_law_draw : Df K mg "_law_draw" s_law_draw ["_law_row_here", "_law_many"] f2 fd2) (G_law_draw : FnOk P w K mg base CX0 1 f2 fd2 ["_law_row_here", "_law_many"] spDraw)
    {f3 : Addr} {fd3 : FuncData} (D_law_names : Df K mg "_law_names" s_law_names ["_law_row_here", "_law_many"] f3 fd3) (G_law_names : FnOk P w K mg base CX0 3 f3 fd3 ["_law_row_here", "_law_many"] spNames)
    {f4 : Addr} {fd4 : FuncData} (D_law_size : Df K mg "_law_size" s_law_size ["_law_row_here"] f4 fd4) (G_law_size : FnOk P w K mg base CX0 2 f4 fd4 ["_law_row_here"] spSz)
    {f5 : Addr} {fd5 : FuncData} (D_law_steps : Df K mg "_law_steps" s_law_steps ["_law_row_here", "_law_names_here", "_law_locks", "_law_size_here"] f5 fd5) (G_law_steps : FnOk P w K mg base CX0 5 f5 fd5 ["_law_row_here", "_law_names_here", "_law_locks", "_law_size_here"] spSteps)
    {f6 : Addr} {fd6 : FuncData} (D_law_good : Df K mg "_law_good" s_law_good ["_law_name", "_law_steps_here", "_law_named", "_law_rounds", "_law_last"] f6 fd6) (G_law_good : FnG P w K mg base (L2.CX P w) 9 f6 fd6 ["_law_name", "_law_steps_here", "_law_named", "_law_rounds", "_law_last"] spGood)
    {f7 : Addr} {fd7 : FuncData} (D_law_spoil : Df K mg "_law_spoil" s_law_spoil ["_law_row_here", "_law_steps_here", "_law_names_here"] f7 fd7) (G_law_spoil : FnOk P w K mg base CX0 6 f7 fd7 ["_law_row_here", "_law_steps_here", "_law_names_here"] spSpoil)
    {f8 : Addr} {fd8 : FuncData} (D_law_lock_fault : Df K mg "_law_lock_fault" s_law_lock_fault ["_law_row_here", "_law_steps_here", "_law_bad", "_law_name"] f8 fd8) (G_law_lock_fault : FnOk P w K mg base CX0 2 f8 fd8 ["_law_row_here", "_law_steps_here", "_law_bad", "_law_name"] spLkF)
    {f9 : Addr} {fd9 : FuncData} (D_law_odd_number : Df K mg "_law_odd_number" s_law_odd_number ["_law_row_here", "_law_most"] f9 fd9) (G_law_odd_number : FnOk P w K mg base CX0 2 f9 fd9 ["_law_row_here", "_law_most"] spOddN)
    {fa : Addr} {fda : FuncData} (D_law_odd_text : Df K mg "_law_odd_text" s_law_odd_text ["_law_row_here"] fa fda) (G_law_odd_text : FnOk P w K mg base CX0 3 fa fda ["_law_row_here"] spOddT)
    {fb : Addr} {fdb : FuncData} (D_law_told : Df K mg "_law_told" s_law_told ["_law_name", "_law_steps_here", "_law_named", "_law_rounds", "_law_last"] fb fdb) (G_law_told : FnOk P w K mg base CX0 9 fb fdb ["_law_name", "_law_steps_here", "_law_named", "_law_rounds", "_law_last"] (spTold K)) : FnG P w K mg base (L2.CX P w) 11 f fd ["_law_script"] (spLaw K) := by
  refine FnG.ok D.F sc_law (fun vs H Q E h => ?_) (fun cdv A outer s H vs Q E gd0 hr h => ?_)
  · obtain ⟨_, _, rfl, _⟩ := h
    rfl
  · obtain ⟨sa, ns, rfl, hS, n63, q⟩ := h
    have gd := And.intro gd0 hr.units
    have len_law_good : ∀ vs H Q E, spGood vs H Q E → vs.length = ["_law_name", "_law_steps_here", "_law_named", "_law_rounds", "_law_last"].length := fun vs H Q E h => by
      obtain ⟨_, _, _, _, _, _, _, _, rfl, _⟩ := h
      rfl
    refine ⟨_, (pss_cons (ps_set (i := 1) sc_law.nd rfl (Or.inl rfl) (pe_call G_law_row (hr.mono (by decide)) rfl D_law_row.g D_law_row.F.kp D_law_row.b .nil pass0 (pa_cons (pv 0) pa_nil)))
      (pss_cons (ps_set (i := 2) sc_law.nd rfl (Or.inl rfl) (pe_call G_law_names (hr.mono (by decide)) rfl D_law_names.g D_law_names.F.kp D_law_names.b .nil pass0 (pa_cons (pv 1) (pa_cons pe_int pa_nil))))
      (pss_cons (ps_set (i := 3) sc_law.nd rfl (Or.inl rfl) (pe_call G_law_size (hr.mono (by decide)) rfl D_law_size.g D_law_size.F.kp D_law_size.b .nil pass0 (pa_cons (pv 1) pa_nil)))
      (pss_cons (ps_set (i := 4) sc_law.nd rfl (Or.inl rfl) (pe_call G_law_steps (hr.mono (by decide)) rfl D_law_steps.g D_law_steps.F.kp D_law_steps.b .nil pass0 (pa_cons (pv 1) (pa_cons (pe_slice sl_list (pv 2) (po_some pe_int) po_none) (pa_cons (pe_slice sl_list (pv 2) (po_some pe_int) (po_some pe_int)) (pa_cons (pv 3) pa_nil))))))
      (pss_cons (ps_set (i := 5) sc_law.nd rfl (Or.inl rfl) (pe_call G_law_draw (hr.mono (by decide)) rfl D_law_draw.g D_law_draw.F.kp D_law_draw.b .nil pass0 (pa_cons (pv 1) (pa_cons pe_int pa_nil))))
      (pss_cons (ps_set (i := 6) sc_law.nd rfl (Or.inl rfl) (pe_call G_law_draw (hr.mono (by decide)) rfl D_law_draw.g D_law_draw.F.kp D_law_draw.b .nil pass0 (pa_cons (pv 1) (pa_cons pe_int pa_nil))))
      (pss_cons (ps_set (i := 7) sc_law.nd rfl (Or.inl rfl) (pe_cmpR op_ne (pe_call G_law_draw (hr.mono (by decide)) rfl D_law_draw.g D_law_draw.F.kp D_law_draw.b .nil pass0 (pa_cons (pv 1) (pa_cons pe_int pa_nil))) pe_int (nomark _)))
      (pss_cons (ps_if (PW.pt (pw_and (pt_cmpR op_le pe_int (pv 3) (nomark _)) (pw_and (pt_cmpR op_le (pv 3) pe_int (nomark _)) (pw_and1 (pt_not (pt_val (pe_callG G_law_good gd0 (hr.mono (by decide)) rfl D_law_good.g D_law_good.F.kp D_law_good.b len_law_good passL (pa_cons (pe_ix (r := rIxL K) ix_list (pv 2) pe_int (fun _ _ => rfl)) (pa_cons (pe_callTy call_list_of (by rfl) T.b_list (by decide +kernel) (pa_cons (pv 4) pa_nil)) (pa_cons (pv 7) (pa_cons (pv 5) (pa_cons (pv 6) pa_nil)))))))))))) (pss_one (ps_ret pe_bl)) pss_nil)
      (pss_cons (ps_set (i := 8) sc_law.nd rfl (Or.inl rfl) (pe_call G_law_spoil (hr.mono (by decide)) rfl D_law_spoil.g D_law_spoil.F.kp D_law_spoil.b .nil pass0 (pa_cons (pv 1) (pa_cons (pv 4) (pa_cons (pe_slice sl_list (pv 2) (po_some pe_int) po_none) pa_nil)))))
      (pss_cons (ps_set (i := 9) sc_law.nd rfl (Or.inl rfl) (pe_call G_law_lock_fault (hr.mono (by decide)) rfl D_law_lock_fault.g D_law_lock_fault.F.kp D_law_lock_fault.b .nil pass0 (pa_cons (pv 1) (pa_cons (pv 4) (pa_cons (pv 8) (pa_cons (pe_ix (r := rIxL K) ix_list (pv 2) pe_int (fun _ _ => rfl)) pa_nil))))))
      (pss_cons (ps_set (i := 10) sc_law.nd rfl (Or.inl rfl) (pe_ix (r := rIxL K) ix_list (pv 2) pe_int (fun _ _ => rfl)))
      (pss_cons (ps_set (i := 11) sc_law.nd rfl (Or.inl rfl) (pe_tup (pa_cons pe_str (pa_cons (pv 10) (pa_cons (pe_ifExp (pt_val (pv 7)) (pv 5) pe_int) (pa_cons (pe_ifExp (pt_val (pv 7)) (pv 6) pe_int) (pa_cons (pe_callTy call_list_of (by rfl) T.b_list (by decide +kernel) (pa_cons (pv 4) pa_nil)) pa_nil)))))))
      (pss_cons (ps_if (PW.pt (pw_and (pt_val (pv 7)) (pw_and1 (pt_cmpR op_eq (pe_call G_law_draw (hr.mono (by decide)) rfl D_law_draw.g D_law_draw.F.kp D_law_draw.b .nil pass0 (pa_cons (pv 1) (pa_cons pe_int pa_nil))) pe_int (nomark _))))) (pss_cons (ps_set (i := 6) sc_law.nd rfl (Or.inl rfl) (pe_call G_law_odd_number (hr.mono (by decide)) rfl D_law_odd_number.g D_law_odd_number.F.kp D_law_odd_number.b .nil pass0 (pa_cons (pv 1) (pa_cons pe_int pa_nil))))
      (pss_one (ps_set (i := 11) sc_law.nd rfl (Or.inl rfl) (pe_tup (pa_cons pe_str (pa_cons (pv 6) (pa_cons pe_bl pa_nil))))))) pss_nil)
      (pss_cons (ps_if (PW.pt (pw_and (pt_val (pv 7)) (pw_and1 (pt_cmpR op_eq (pe_call G_law_draw (hr.mono (by decide)) rfl D_law_draw.g D_law_draw.F.kp D_law_draw.b .nil pass0 (pa_cons (pv 1) (pa_cons pe_int pa_nil))) pe_int (nomark _))))) (pss_cons (ps_set (i := 5) sc_law.nd rfl (Or.inl rfl) (pe_call G_law_odd_number (hr.mono (by decide)) rfl D_law_odd_number.g D_law_odd_number.F.kp D_law_odd_number.b .nil pass0 (pa_cons (pv 1) (pa_cons pe_int pa_nil))))
      (pss_one (ps_set (i := 11) sc_law.nd rfl (Or.inl rfl) (pe_tup (pa_cons pe_str (pa_cons (pv 5) (pa_cons pe_bl pa_nil))))))) pss_nil)
      (pss_cons (ps_if (pt_cmpR op_ge (pv 9) pe_int (nomark _)) (pss_one (ps_set (i := 11) sc_law.nd rfl (Or.inl rfl) (pe_tup (pa_cons pe_str (pa_cons (pv 10) (pa_cons (pv 9) (pa_cons pe_bl pa_nil))))))) pss_nil)
      (pss_cons (ps_if (pt_cmpR op_gt (pe_callB (id := "len") (r := Evl.rLenS K) call_len_seq (by rfl) T.b_len PySem.boot_len (pa_cons (pv 8) pa_nil)) pe_int (nomark _)) (pss_one (ps_set (i := 11) sc_law.nd rfl (Or.inl rfl) (pe_tup (pa_cons pe_str (pa_cons (pv 10) (pa_cons (pe_ix (r := rIxL K) ix_list (pv 8) pe_int (fun _ _ => rfl)) (pa_cons pe_bl pa_nil))))))) pss_nil)
      (pss_cons (ps_if (pt_cmpR op_gt (pv 3) pe_int (nomark _)) (pss_one (ps_set (i := 11) sc_law.nd rfl (Or.inl rfl) (pe_tup (pa_cons pe_str (pa_cons (pv 10) (pa_cons pe_int (pa_cons pe_bl pa_nil))))))) pss_nil)
      (pss_cons (ps_if (pt_cmpR op_eq (pv 3) pe_int (nomark _)) (pss_one (ps_set (i := 11) sc_law.nd rfl (Or.inl rfl) (pe_tup (pa_cons pe_str (pa_cons (pv 10) (pa_cons pe_int (pa_cons pe_bl pa_nil))))))) pss_nil)
      (pss_cons (ps_if (pt_cmpR op_eq (pe_call G_law_draw (hr.mono (by decide)) rfl D_law_draw.g D_law_draw.F.kp D_law_draw.b .nil pass0 (pa_cons (pv 1) (pa_cons pe_int pa_nil))) pe_int (nomark _)) (pss_cons (ps_set (i := 10) sc_law.nd rfl (Or.inl rfl) (pe_ix (r := rIxL K) ix_list (pe_lst (pa_cons (pe_call G_law_odd_text (hr.mono (by decide)) rfl D_law_odd_text.g D_law_odd_text.F.kp D_law_odd_text.b .nil pass0 (pa_cons (pv 1) pa_nil)) (pa_cons pe_int (pa_cons pe_non (pa_cons pe_bl (pa_cons (pe_tup (pa_cons pe_str pa_nil)) pa_nil)))))) (pe_call G_law_draw (hr.mono (by decide)) rfl D_law_draw.g D_law_draw.F.kp D_law_draw.b .nil pass0 (pa_cons (pv 1) (pa_cons pe_int pa_nil))) (fun _ _ => rfl)))
      (pss_one (ps_set (i := 11) sc_law.nd rfl (Or.inl rfl) (pe_tup (pa_cons pe_str (pa_cons (pv 10) (pa_cons pe_bl pa_nil))))))) pss_nil)
      (pss_cons (ps_set (i := 12) sc_law.nd rfl (Or.inl rfl) (pe_callTy call_list_of (by rfl) T.b_list (by decide +kernel) (pa_cons (pv 4) pa_nil)))
      (pss_cons (ps_set (i := 13) sc_law.nd rfl (Or.inl rfl) (pe_call G_law_told (hr.mono (by decide)) rfl D_law_told.g D_law_told.F.kp D_law_told.b .nil pass0 (pa_cons (pv 10) (pa_cons (pv 12) (pa_cons (pv 7) (pa_cons (pv 5) (pa_cons (pv 6) pa_nil)))))))
      (pss_one (ps_ret (pe_and (pe_cmpR op_eq (pe_callB (id := "repr") (r := rReprA) (call_reprA gd) (by rfl) T.b_repr (by decide +kernel) (pa_cons (pv 13) pa_nil)) (pe_callB (id := "repr") (r := rReprA) (call_reprA gd) (by rfl) T.b_repr (by decide +kernel) (pa_cons (pv 11) pa_nil)) (nomark _)) (pe_one (pe_cmpR op_eq (pe_callB (id := "repr") (r := rReprA) (call_reprA gd) (by rfl) T.b_repr (by decide +kernel) (pa_cons (pv 12) pa_nil)) (pe_callB (id := "repr") (r := rReprA) (call_reprA gd) (by rfl) T.b_repr (by decide +kernel) (pa_cons (pv 4) pa_nil)) (nomark _))))))))))))))))))))))))))), ?_⟩
    refine seq_step ?_
    try simp (maxSteps := 1000000) only [tIfS, tTest, tOp, tUn, tCB, tCons, tNil, tVar, tC, rI0, rI, rU, rEq, rNe, tRet, tRetN, tAsg, gName, gSub, tBM, tBM0, tNext, tB, tNot, tAnd, tOr, tIf, tCall, tDrop, tBreak, tCont, L2.start, tDGet, sDPut, tTup, tLst, tDNewK, tRevL, rCat, rAppend, rPop, rSetL, tAndV, tOrV, tNotV, tSl, tPart, tNoPart, tM1, gTup, gCons, gNil, cxK, cxnK, List.map_cons, List.map_nil, List.length_cons, List.length_nil, List.replicate, List.cons_append, List.nil_append, List.append_nil, List.set_cons_zero, List.set_cons_succ, List.getElem?_cons_zero, List.getElem?_cons_succ, Option.some.injEq, V.ref.injEq, V.int.injEq, V.str.injEq, V.bl.injEq, V.ty.injEq, exists_eq_left', exists_eq_left, exists_and_left, List.cons.injEq, and_true, true_and, sc_ii, sc_ss, sc_bb, sc_ni, sc_in, sc_is, sc_si, sc_nn, decide_true, decide_false, reduceCtorEq, Bool.false_eq_true, if_true, if_false, ite_true, ite_false, exists_const, eq_self, false_and, and_false, or_false, false_or, exists_false, Evl.rLenS, rSum, wipe, tYes, exists_eq, exists_eq', rIxL, rIxT, rIxS, exists_and_right, gt_iff_lt, not_true_eq_false, not_false_eq_true, Bool.not_true, Bool.not_false, decide_eq_true_eq, Nat.reduceSub, Nat.reduceAdd, List.append_assoc, tChain, tDIn, tDNotIn, sDDel, tAug, ipI]
    refine ⟨sa, ns, rfl, hS, n63, fun a H1 na a1 k1 => ?_⟩
    dsimp only
    refine seq_step ?_
    try simp (maxSteps := 1000000) only [tIfS, tTest, tOp, tUn, tCB, tCons, tNil, tVar, tC, rI0, rI, rU, rEq, rNe, tRet, tRetN, tAsg, gName, gSub, tBM, tBM0, tNext, tB, tNot, tAnd, tOr, tIf, tCall, tDrop, tBreak, tCont, L2.start, tDGet, sDPut, tTup, tLst, tDNewK, tRevL, rCat, rAppend, rPop, rSetL, tAndV, tOrV, tNotV, tSl, tPart, tNoPart, tM1, gTup, gCons, gNil, cxK, cxnK, List.map_cons, List.map_nil, List.length_cons, List.length_nil, List.replicate, List.cons_append, List.nil_append, List.append_nil, List.set_cons_zero, List.set_cons_succ, List.getElem?_cons_zero, List.getElem?_cons_succ, Option.some.injEq, V.ref.injEq, V.int.injEq, V.str.injEq, V.bl.injEq, V.ty.injEq, exists_eq_left', exists_eq_left, exists_and_left, List.cons.injEq, and_true, true_and, sc_ii, sc_ss, sc_bb, sc_ni, sc_in, sc_is, sc_si, sc_nn, decide_true, decide_false, reduceCtorEq, Bool.false_eq_true, if_true, if_false, ite_true, ite_false, exists_const, eq_self, false_and, and_false, or_false, false_or, exists_false, Evl.rLenS, rSum, wipe, tYes, exists_eq, exists_eq', rIxL, rIxT, rIxS, exists_and_right, gt_iff_lt, not_true_eq_false, not_false_eq_true, Bool.not_true, Bool.not_false, decide_eq_true_eq, Nat.reduceSub, Nat.reduceAdd, List.append_assoc, tChain, tDIn, tDNotIn, sDDel, tAug, ipI]
    refine ⟨a, 11, rfl, a1, by decide, by decide, fun nl zs H2 nnl hnl zl zn znd a2 k2 => ?_⟩
    dsimp only
    have NM : NmsAt H2 nl zs := ⟨hnl, by rw [zl]; decide, by rw [zl]; decide, fun z hz => nm_name (zn z hz)⟩
    have anl : a ≠ nl := a1.ne nnl
    refine seq_step ?_
    try simp (maxSteps := 1000000) only [tIfS, tTest, tOp, tUn, tCB, tCons, tNil, tVar, tC, rI0, rI, rU, rEq, rNe, tRet, tRetN, tAsg, gName, gSub, tBM, tBM0, tNext, tB, tNot, tAnd, tOr, tIf, tCall, tDrop, tBreak, tCont, L2.start, tDGet, sDPut, tTup, tLst, tDNewK, tRevL, rCat, rAppend, rPop, rSetL, tAndV, tOrV, tNotV, tSl, tPart, tNoPart, tM1, gTup, gCons, gNil, cxK, cxnK, List.map_cons, List.map_nil, List.length_cons, List.length_nil, List.replicate, List.cons_append, List.nil_append, List.append_nil, List.set_cons_zero, List.set_cons_succ, List.getElem?_cons_zero, List.getElem?_cons_succ, Option.some.injEq, V.ref.injEq, V.int.injEq, V.str.injEq, V.bl.injEq, V.ty.injEq, exists_eq_left', exists_eq_left, exists_and_left, List.cons.injEq, and_true, true_and, sc_ii, sc_ss, sc_bb, sc_ni, sc_in, sc_is, sc_si, sc_nn, decide_true, decide_false, reduceCtorEq, Bool.false_eq_true, if_true, if_false, ite_true, ite_false, exists_const, eq_self, false_and, and_false, or_false, false_or, exists_false, Evl.rLenS, rSum, wipe, tYes, exists_eq, exists_eq', rIxL, rIxT, rIxS, exists_and_right, gt_iff_lt, not_true_eq_false, not_false_eq_true, Bool.not_true, Bool.not_false, decide_eq_true_eq, Nat.reduceSub, Nat.reduceAdd, List.append_assoc, tChain, tDIn, tDNotIn, sDDel, tAug, ipI]
    refine ⟨a, rfl, a2, fun sz H3 sz120 a3 k3 => ?_⟩
    dsimp only
    have NM3 := NM.kpa anl k3
    refine seq_step ?_
    try simp (maxSteps := 1000000) only [tIfS, tTest, tOp, tUn, tCB, tCons, tNil, tVar, tC, rI0, rI, rU, rEq, rNe, tRet, tRetN, tAsg, gName, gSub, tBM, tBM0, tNext, tB, tNot, tAnd, tOr, tIf, tCall, tDrop, tBreak, tCont, L2.start, tDGet, sDPut, tTup, tLst, tDNewK, tRevL, rCat, rAppend, rPop, rSetL, tAndV, tOrV, tNotV, tSl, tPart, tNoPart, tM1, gTup, gCons, gNil, cxK, cxnK, List.map_cons, List.map_nil, List.length_cons, List.length_nil, List.replicate, List.cons_append, List.nil_append, List.append_nil, List.set_cons_zero, List.set_cons_succ, List.getElem?_cons_zero, List.getElem?_cons_succ, Option.some.injEq, V.ref.injEq, V.int.injEq, V.str.injEq, V.bl.injEq, V.ty.injEq, exists_eq_left', exists_eq_left, exists_and_left, List.cons.injEq, and_true, true_and, sc_ii, sc_ss, sc_bb, sc_ni, sc_in, sc_is, sc_si, sc_nn, decide_true, decide_false, reduceCtorEq, Bool.false_eq_true, if_true, if_false, ite_true, ite_false, exists_const, eq_self, false_and, and_false, or_false, false_or, exists_false, Evl.rLenS, rSum, wipe, tYes, exists_eq, exists_eq', rIxL, rIxT, rIxS, exists_and_right, gt_iff_lt, not_true_eq_false, not_false_eq_true, Bool.not_true, Bool.not_false, decide_eq_true_eq, Nat.reduceSub, Nat.reduceAdd, List.append_assoc, tChain, tDIn, tDNotIn, sDDel, tAug, ipI]
    refine ⟨nl, _, rfl, sq_l NM3.1, fun p1 n1 => ?_⟩
    rw [cut5]
    have kp1 := (Kp.new n1 : Kp [] H3 (upd H3 p1 (.lst ((zs.drop 5).map V.str))))
    have hp1 : (upd H3 p1 (.lst ((zs.drop 5).map V.str))) p1 = some (.lst ((zs.drop 5).map V.str)) := upd_same
    have ap1 : a ≠ p1 := a3.ne n1
    have ap3 := a3.kp0 kp1
    generalize upd H3 p1 (.lst ((zs.drop 5).map V.str)) = H4 at kp1 hp1 ap3 ⊢
    refine ⟨nl, _, rfl, sq_l (kp1 _ _ not0 NM3.1), fun p2 n2 => ?_⟩
    have zl : zs.length = 11 := zl
    rw [cut14 zl]
    have kp2 := (Kp.new n2 : Kp [] H4 (upd H4 p2 (.lst (((zs.drop 1).take 3).map V.str))))
    have hp2 : (upd H4 p2 (.lst (((zs.drop 1).take 3).map V.str))) p2 = some (.lst (((zs.drop 1).take 3).map V.str)) := upd_same
    have ap2 : a ≠ p2 := ap3.ne n2
    have a5 := ap3.kp0 kp2
    generalize upd H4 p2 (.lst (((zs.drop 1).take 3).map V.str)) = H5 at kp2 hp2 a5 ⊢
    have N5 : NmsAt H5 p1 (zs.drop 5) := nms_sub NM3 (fun z hz => List.mem_of_mem_drop hz) (by rw [List.length_drop]; omega) (by rw [List.length_drop]; omega) (kp2 _ _ not0 hp1)
    have N14 : NmsAt H5 p2 ((zs.drop 1).take 3) := nms_sub NM3 (fun z hz => List.mem_of_mem_drop (List.mem_of_mem_take hz)) (by rw [List.length_take, List.length_drop]; omega) (by rw [List.length_take, List.length_drop]; omega) hp2
    refine ⟨a, p1, p2, _, _, sz, rfl, a5, N5, N14, ap1, ap2, sz120, fun st xs ds ls H6 nst hst hds gr lk lks xl a6 k6 => ?_⟩
    dsimp only
    have NM6 := (NM3.kp (kp1.trans kp2)).kpa anl k6
    have ast : a ≠ st := a5.ne nst
    have stnl : st ≠ nl := fun z => by rw [z, (NM3.kp (kp1.trans kp2)).1] at nst; cases nst
    refine seq_step ?_
    try simp (maxSteps := 1000000) only [tIfS, tTest, tOp, tUn, tCB, tCons, tNil, tVar, tC, rI0, rI, rU, rEq, rNe, tRet, tRetN, tAsg, gName, gSub, tBM, tBM0, tNext, tB, tNot, tAnd, tOr, tIf, tCall, tDrop, tBreak, tCont, L2.start, tDGet, sDPut, tTup, tLst, tDNewK, tRevL, rCat, rAppend, rPop, rSetL, tAndV, tOrV, tNotV, tSl, tPart, tNoPart, tM1, gTup, gCons, gNil, cxK, cxnK, List.map_cons, List.map_nil, List.length_cons, List.length_nil, List.replicate, List.cons_append, List.nil_append, List.append_nil, List.set_cons_zero, List.set_cons_succ, List.getElem?_cons_zero, List.getElem?_cons_succ, Option.some.injEq, V.ref.injEq, V.int.injEq, V.str.injEq, V.bl.injEq, V.ty.injEq, exists_eq_left', exists_eq_left, exists_and_left, List.cons.injEq, and_true, true_and, sc_ii, sc_ss, sc_bb, sc_ni, sc_in, sc_is, sc_si, sc_nn, decide_true, decide_false, reduceCtorEq, Bool.false_eq_true, if_true, if_false, ite_true, ite_false, exists_const, eq_self, false_and, and_false, or_false, false_or, exists_false, Evl.rLenS, rSum, wipe, tYes, exists_eq, exists_eq', rIxL, rIxT, rIxS, exists_and_right, gt_iff_lt, not_true_eq_false, not_false_eq_true, Bool.not_true, Bool.not_false, decide_eq_true_eq, Nat.reduceSub, Nat.reduceAdd, List.append_assoc, tChain, tDIn, tDNotIn, sDDel, tAug, ipI]
    refine ⟨a, 5, rfl, a6, by decide, fun t H7 t0 t5 a7 k7 => ?_⟩
    dsimp only
    refine seq_step ?_
    try simp (maxSteps := 1000000) only [tIfS, tTest, tOp, tUn, tCB, tCons, tNil, tVar, tC, rI0, rI, rU, rEq, rNe, tRet, tRetN, tAsg, gName, gSub, tBM, tBM0, tNext, tB, tNot, tAnd, tOr, tIf, tCall, tDrop, tBreak, tCont, L2.start, tDGet, sDPut, tTup, tLst, tDNewK, tRevL, rCat, rAppend, rPop, rSetL, tAndV, tOrV, tNotV, tSl, tPart, tNoPart, tM1, gTup, gCons, gNil, cxK, cxnK, List.map_cons, List.map_nil, List.length_cons, List.length_nil, List.replicate, List.cons_append, List.nil_append, List.append_nil, List.set_cons_zero, List.set_cons_succ, List.getElem?_cons_zero, List.getElem?_cons_succ, Option.some.injEq, V.ref.injEq, V.int.injEq, V.str.injEq, V.bl.injEq, V.ty.injEq, exists_eq_left', exists_eq_left, exists_and_left, List.cons.injEq, and_true, true_and, sc_ii, sc_ss, sc_bb, sc_ni, sc_in, sc_is, sc_si, sc_nn, decide_true, decide_false, reduceCtorEq, Bool.false_eq_true, if_true, if_false, ite_true, ite_false, exists_const, eq_self, false_and, and_false, or_false, false_or, exists_false, Evl.rLenS, rSum, wipe, tYes, exists_eq, exists_eq', rIxL, rIxT, rIxS, exists_and_right, gt_iff_lt, not_true_eq_false, not_false_eq_true, Bool.not_true, Bool.not_false, decide_eq_true_eq, Nat.reduceSub, Nat.reduceAdd, List.append_assoc, tChain, tDIn, tDNotIn, sDDel, tAug, ipI]
    refine ⟨a, 10, rfl, a7, by decide, fun u H8 u0 u10 a8 k8 => ?_⟩
    dsimp only
    refine seq_step ?_
    try simp (maxSteps := 1000000) only [tIfS, tTest, tOp, tUn, tCB, tCons, tNil, tVar, tC, rI0, rI, rU, rEq, rNe, tRet, tRetN, tAsg, gName, gSub, tBM, tBM0, tNext, tB, tNot, tAnd, tOr, tIf, tCall, tDrop, tBreak, tCont, L2.start, tDGet, sDPut, tTup, tLst, tDNewK, tRevL, rCat, rAppend, rPop, rSetL, tAndV, tOrV, tNotV, tSl, tPart, tNoPart, tM1, gTup, gCons, gNil, cxK, cxnK, List.map_cons, List.map_nil, List.length_cons, List.length_nil, List.replicate, List.cons_append, List.nil_append, List.append_nil, List.set_cons_zero, List.set_cons_succ, List.getElem?_cons_zero, List.getElem?_cons_succ, Option.some.injEq, V.ref.injEq, V.int.injEq, V.str.injEq, V.bl.injEq, V.ty.injEq, exists_eq_left', exists_eq_left, exists_and_left, List.cons.injEq, and_true, true_and, sc_ii, sc_ss, sc_bb, sc_ni, sc_in, sc_is, sc_si, sc_nn, decide_true, decide_false, reduceCtorEq, Bool.false_eq_true, if_true, if_false, ite_true, ite_false, exists_const, eq_self, false_and, and_false, or_false, false_or, exists_false, Evl.rLenS, rSum, wipe, tYes, exists_eq, exists_eq', rIxL, rIxT, rIxS, exists_and_right, gt_iff_lt, not_true_eq_false, not_false_eq_true, Bool.not_true, Bool.not_false, decide_eq_true_eq, Nat.reduceSub, Nat.reduceAdd, List.append_assoc, tChain, tDIn, tDNotIn, sDDel, tAug, ipI]
    refine ⟨a, 3, rfl, a8, by decide, fun nr H9 _ _ a9 k9 => ⟨rfl, ?_⟩⟩
    generalize (!decide (V.int nr = V.int 0)) = nm
    have k69 := (k7.trans k8).trans k9
    have NM9 := NM6.kpa anl k69
    have hst9 := k69 _ _ (not1 ast.symm) hst
    have hds9 : DqAll H9 xs ds := DqAll.kpS k69 (fun b hb => by
      rw [List.mem_singleton.mp hb]
      obtain ⟨ns, en, _⟩ := a6
      exact ⟨_, en⟩) hds gr.noL
    have xd : ds.length = sz := by rw [← hds.len, xl]
    obtain ⟨z0, e0, g0⟩ : ∃ z0, zs[0]? = some z0 ∧ nameS z0 = true := ⟨_, List.getElem?_eq_getElem (by omega), NM.2.2.2 _ (List.getElem_mem _)⟩
    obtain ⟨z4, e4, g4⟩ : ∃ z4, zs[4]? = some z4 ∧ nameS z4 = true := ⟨_, List.getElem?_eq_getElem (by omega), NM.2.2.2 _ (List.getElem_mem _)⟩
    refine seq_cut (fun σ H' => σ = [some (.ref sa), some (.ref a), some (.ref nl), some (.int (sz : Nat)), some (.ref st), some (.int t), some (.int u), some (.bl nm), none, none, none, none, none, none] ∧ Kp [] H9 H') (fun R hR => ?_) ?_
    · try simp (maxSteps := 1000000) only [tSeq, tIfS, tTest, tOp, tUn, tCB, tCons, tNil, tVar, tC, rI0, rI, rU, rEq, rNe, tRet, tRetN, tAsg, gName, gSub, tBM, tBM0, tNext, tB, tNot, tAnd, tOr, tIf, tCall, tDrop, tBreak, tCont, L2.start, tDGet, sDPut, tTup, tLst, tDNewK, tRevL, rCat, rAppend, rPop, rSetL, tAndV, tOrV, tNotV, tSl, tPart, tNoPart, tM1, gTup, gCons, gNil, cxK, cxnK, List.map_cons, List.map_nil, List.length_cons, List.length_nil, List.replicate, List.cons_append, List.nil_append, List.append_nil, List.set_cons_zero, List.set_cons_succ, List.getElem?_cons_zero, List.getElem?_cons_succ, Option.some.injEq, V.ref.injEq, V.int.injEq, V.str.injEq, V.bl.injEq, V.ty.injEq, exists_eq_left', exists_eq_left, exists_and_left, List.cons.injEq, and_true, true_and, sc_ii, sc_ss, sc_bb, sc_ni, sc_in, sc_is, sc_si, sc_nn, decide_true, decide_false, reduceCtorEq, Bool.false_eq_true, if_true, if_false, ite_true, ite_false, exists_const, eq_self, false_and, and_false, or_false, false_or, exists_false, Evl.rLenS, rSum, wipe, tYes, exists_eq, exists_eq', rIxL, rIxT, rIxS, exists_and_right, gt_iff_lt, not_true_eq_false, not_false_eq_true, Bool.not_true, Bool.not_false, decide_eq_true_eq, Nat.reduceSub, Nat.reduceAdd, List.append_assoc, tChain, tDIn, tDNotIn, sDDel, tAug, ipI]
      split
      · next s1 =>
        split
        · next s80 =>
          refine ⟨_, sq_l NM9.1, .str z0, ixn (i := 0) e0, xs, .inl (sq_l hst9), fun p np => ?_⟩
          have kp := (Kp.new np : Kp [] H9 (upd H9 p (.lst xs)))
          refine ⟨z0, t, u, nm, p, xs, ds, ls, rfl, g0, upd_same, DqAll.kp kp hds9, gr, lk.good, by omega, by omega, t0, t5, u0, u10, fun H' k' => ⟨true, rfl, ?_⟩⟩
          rw [if_neg (by decide)]
          exact hR _ _ ⟨rfl, kp.trans k'⟩
        · exact hR _ _ ⟨rfl, Kp.refl _ _⟩
      · exact hR _ _ ⟨rfl, Kp.refl _ _⟩
    · rintro σ H10 ⟨rfl, k10⟩
      have NMa := NM9.kp k10
      have aa := a9.kp0 k10
      have hsta := k10 _ _ not0 hst9
      have hdsa := DqAll.kp k10 hds9
      refine seq_step ?_
      try simp (maxSteps := 1000000) only [tIfS, tTest, tOp, tUn, tCB, tCons, tNil, tVar, tC, rI0, rI, rU, rEq, rNe, tRet, tRetN, tAsg, gName, gSub, tBM, tBM0, tNext, tB, tNot, tAnd, tOr, tIf, tCall, tDrop, tBreak, tCont, L2.start, tDGet, sDPut, tTup, tLst, tDNewK, tRevL, rCat, rAppend, rPop, rSetL, tAndV, tOrV, tNotV, tSl, tPart, tNoPart, tM1, gTup, gCons, gNil, cxK, cxnK, List.map_cons, List.map_nil, List.length_cons, List.length_nil, List.replicate, List.cons_append, List.nil_append, List.append_nil, List.set_cons_zero, List.set_cons_succ, List.getElem?_cons_zero, List.getElem?_cons_succ, Option.some.injEq, V.ref.injEq, V.int.injEq, V.str.injEq, V.bl.injEq, V.ty.injEq, exists_eq_left', exists_eq_left, exists_and_left, List.cons.injEq, and_true, true_and, sc_ii, sc_ss, sc_bb, sc_ni, sc_in, sc_is, sc_si, sc_nn, decide_true, decide_false, reduceCtorEq, Bool.false_eq_true, if_true, if_false, ite_true, ite_false, exists_const, eq_self, false_and, and_false, or_false, false_or, exists_false, Evl.rLenS, rSum, wipe, tYes, exists_eq, exists_eq', rIxL, rIxT, rIxS, exists_and_right, gt_iff_lt, not_true_eq_false, not_false_eq_true, Bool.not_true, Bool.not_false, decide_eq_true_eq, Nat.reduceSub, Nat.reduceAdd, List.append_assoc, tChain, tDIn, tDNotIn, sDDel, tAug, ipI]
      refine ⟨nl, _, rfl, sq_l NMa.1, fun p3 n3 => ?_⟩
      rw [cut5]
      have kp3 := (Kp.new n3 : Kp [] H10 (upd H10 p3 (.lst ((zs.drop 5).map V.str))))
      have hp3 : (upd H10 p3 (.lst ((zs.drop 5).map V.str))) p3 = some (.lst ((zs.drop 5).map V.str)) := upd_same
      have ap3 : a ≠ p3 := aa.ne n3
      have stp3 : st ≠ p3 := fun z => by rw [z] at hsta; rw [n3] at hsta; cases hsta
      generalize upd H10 p3 (.lst ((zs.drop 5).map V.str)) = H11 at kp3 hp3 ⊢
      have NMb := NMa.kp kp3
      have N5b : NmsAt H11 p3 (zs.drop 5) := nms_sub NMa (fun z hz => List.mem_of_mem_drop hz) (by rw [List.length_drop]; omega) (by rw [List.length_drop]; omega) hp3
      refine ⟨a, st, p3, xs, ds, ls, zs.drop 5, rfl, aa.kp0 kp3, N5b, ap3, ast, stp3, kp3 _ _ not0 hsta, DqAll.kp kp3 hdsa, gr, by omega, fun bl bad xs1 ds1 H12 nbl hbl bad2 srt rng mx dl1 hst1 hd1 a12 k12 => ?_⟩
      dsimp only
      have NMc : NmsAt H12 nl zs := ⟨k12 _ _ (by simp [anl.symm, stnl.symm]) NMb.1, NMb.2⟩
      have abl : a ≠ bl := fun z => by
        obtain ⟨ns, en, _⟩ := aa.kp0 kp3
        rw [z, nbl] at en; cases en
      have sbl : st ≠ bl := fun z => by
        have := kp3 _ _ not0 hsta
        rw [z, nbl] at this; cases this
      refine seq_step ?_
      try simp (maxSteps := 1000000) only [tIfS, tTest, tOp, tUn, tCB, tCons, tNil, tVar, tC, rI0, rI, rU, rEq, rNe, tRet, tRetN, tAsg, gName, gSub, tBM, tBM0, tNext, tB, tNot, tAnd, tOr, tIf, tCall, tDrop, tBreak, tCont, L2.start, tDGet, sDPut, tTup, tLst, tDNewK, tRevL, rCat, rAppend, rPop, rSetL, tAndV, tOrV, tNotV, tSl, tPart, tNoPart, tM1, gTup, gCons, gNil, cxK, cxnK, List.map_cons, List.map_nil, List.length_cons, List.length_nil, List.replicate, List.cons_append, List.nil_append, List.append_nil, List.set_cons_zero, List.set_cons_succ, List.getElem?_cons_zero, List.getElem?_cons_succ, Option.some.injEq, V.ref.injEq, V.int.injEq, V.str.injEq, V.bl.injEq, V.ty.injEq, exists_eq_left', exists_eq_left, exists_and_left, List.cons.injEq, and_true, true_and, sc_ii, sc_ss, sc_bb, sc_ni, sc_in, sc_is, sc_si, sc_nn, decide_true, decide_false, reduceCtorEq, Bool.false_eq_true, if_true, if_false, ite_true, ite_false, exists_const, eq_self, false_and, and_false, or_false, false_or, exists_false, Evl.rLenS, rSum, wipe, tYes, exists_eq, exists_eq', rIxL, rIxT, rIxS, exists_and_right, gt_iff_lt, not_true_eq_false, not_false_eq_true, Bool.not_true, Bool.not_false, decide_eq_true_eq, Nat.reduceSub, Nat.reduceAdd, List.append_assoc, tChain, tDIn, tDNotIn, sDDel, tAug, ipI]
      refine ⟨_, sq_l NMc.1, .str z4, ixn (i := 4) e4, ?_⟩
      refine ⟨a, st, bl, xs1, ds1, ls, bad, z4, rfl, a12, ast, abl, sbl, hst1, hd1, mx, lk, hbl, g4, ?_, by omega, fun r xs2 ds2 ls2 H13 hst2 hd2 mx2 dl2 a13 k13 hF => ?_⟩
      · intro b m hm z
        subst z
        have h1 := lks b m hm
        obtain ⟨i, ei⟩ := List.getElem?_of_mem h1
        have il := (List.getElem?_eq_some_iff.mp ei).1
        rw [List.length_take, List.length_drop] at il
        rw [List.getElem?_take_of_lt (by omega), List.getElem?_drop] at ei
        have h2 := (List.pairwise_iff_getElem.mp znd) (1 + i) 4 (by omega) (by omega) (by omega)
        rw [(List.getElem?_eq_some_iff.mp ei).2, (List.getElem?_eq_some_iff.mp e4).2] at h2
        exact h2 rfl
      dsimp only
      have NMd : NmsAt H13 nl zs := ⟨k13 _ _ (by simp [anl.symm, stnl.symm]) NMc.1, NMc.2⟩
      have hbl13 : H13 bl = some (.lst (bad.map V.int)) := k13 _ _ (by simp [abl.symm, sbl.symm]) hbl
      have d2l : ds2.length = sz := by omega
      have hd13 : DqAll (wo [a] H13) xs2 ds2 := DqAll.kp (wo_sub (S := [a]) (T := [a, st]) (fun x hx => by simp at hx ⊢; exact .inl hx)) hd2
      refine seq_step ?_
      try simp (maxSteps := 1000000) only [tIfS, tTest, tOp, tUn, tCB, tCons, tNil, tVar, tC, rI0, rI, rU, rEq, rNe, tRet, tRetN, tAsg, gName, gSub, tBM, tBM0, tNext, tB, tNot, tAnd, tOr, tIf, tCall, tDrop, tBreak, tCont, L2.start, tDGet, sDPut, tTup, tLst, tDNewK, tRevL, rCat, rAppend, rPop, rSetL, tAndV, tOrV, tNotV, tSl, tPart, tNoPart, tM1, gTup, gCons, gNil, cxK, cxnK, List.map_cons, List.map_nil, List.length_cons, List.length_nil, List.replicate, List.cons_append, List.nil_append, List.append_nil, List.set_cons_zero, List.set_cons_succ, List.getElem?_cons_zero, List.getElem?_cons_succ, Option.some.injEq, V.ref.injEq, V.int.injEq, V.str.injEq, V.bl.injEq, V.ty.injEq, exists_eq_left', exists_eq_left, exists_and_left, List.cons.injEq, and_true, true_and, sc_ii, sc_ss, sc_bb, sc_ni, sc_in, sc_is, sc_si, sc_nn, decide_true, decide_false, reduceCtorEq, Bool.false_eq_true, if_true, if_false, ite_true, ite_false, exists_const, eq_self, false_and, and_false, or_false, false_or, exists_false, Evl.rLenS, rSum, wipe, tYes, exists_eq, exists_eq', rIxL, rIxT, rIxS, exists_and_right, gt_iff_lt, not_true_eq_false, not_false_eq_true, Bool.not_true, Bool.not_false, decide_eq_true_eq, Nat.reduceSub, Nat.reduceAdd, List.append_assoc, tChain, tDIn, tDNotIn, sDDel, tAug, ipI]
      refine ⟨_, sq_l NMd.1, .str z0, ixn (i := 0) e0, ?_⟩
      have LI := LwInv sa a nl st bl sz nm r z0 ds2 ls2
      have gT : belowD 5 (.int t) = true := by show (decide (0 ≤ t) && decide (t < 5)) = true; rw [decide_eq_true t0, decide_eq_true t5]; rfl
      have gU : belowD 10 (.int u) = true := by show (decide (0 ≤ u) && decide (u < 10)) = true; rw [decide_eq_true u0, decide_eq_true u10]; rfl
      have gD : nameD (.str z0) = true := g0
      have shd : ∀ d ∈ ds2, Sh 7 1407 d := fun d hd => (mixed_ok mx2 d hd).2.2
      have C0ok : (1 ≤ sz ∧ sz ≤ 80 ∧ bad = [] ∧ r = -1) → AllSt ds2 ∧ IsF ls2 none ∧ 1 ≤ ds2.length ∧ ds2.length ≤ 80 := fun ⟨h1, h2, h3, h4⟩ => by
        subst h3
        refine ⟨mx2.good.all, ?_, by omega, by omega⟩
        rcases hF with ⟨_, h⟩ | ⟨k, h, _⟩
        · exact h
        · omega
      refine seq_cut (LwInv sa a nl st bl sz nm r z0 ds2 ls2 (1 ≤ sz ∧ sz ≤ 80 ∧ bad = [] ∧ r = -1) (fun dt du => belowD 5 dt = true ∧ belowD 10 du = true) H13) (fun R hR => ?_) ?_
      · have made : ∀ (t' u' : Int) (l p : Addr), H13 l = none → (upd H13 l (.lst xs2)) p = none → t'.natAbs < 1000 → u'.natAbs < 1000 → belowD 5 (.int t') = true → belowD 10 (.int u') = true → t' = (if nm then t else 1) → u' = (if nm then u else 0) → LwInv sa a nl st bl sz nm r z0 ds2 ls2 (1 ≤ sz ∧ sz ≤ 80 ∧ bad = [] ∧ r = -1) (fun dt du => belowD 5 dt = true ∧ belowD 10 du = true) H13 [some (.ref sa), some (.ref a), some (.ref nl), some (.int (sz : Nat)), some (.ref st), some (.int t), some (.int u), some (.bl nm), some (.ref bl), some (.int r), some (.str z0), some (.ref p), none, none] (upd (upd H13 l (.lst xs2)) p (.tup [.str "made", .str z0, .int t', .int u', .ref l])) := by
          intro t' u' l p nl' np' ht hu b5 b10 et eu
          have S13 : Std [a] H13 := fun b hb => by rw [List.mem_singleton.mp hb]; obtain ⟨ns, e, _⟩ := a13; exact ⟨_, e⟩
          have dl := newL S13 nl' hd13
          have k1 := (Kp.new nl' : Kp [] H13 (upd H13 l (.lst xs2)))
          have k2 := (Kp.new np' : Kp [] (upd H13 l (.lst xs2)) (upd (upd H13 l (.lst xs2)) p (.tup [.str "made", .str z0, .int t', .int u', .ref l])))
          refine ⟨.int t, .int u, .ref p, .int t, .int u, .tuple [.str "made", .str z0, .int t', .int u', .list ds2], rfl, fun _ => .int t, rfl, fun _ => .int u, rfl, newT (S13.kp k1) np' (.cons (.str _) (.cons (.str _) (.cons (.int _) (.cons (.int _) (.cons dl .nil))))), sh_made g0 ht hu shd (by omega), fun c d' D' => ?_, ⟨gT, gU⟩, a13.kp0 (k1.trans k2), (k1.trans k2).of0⟩
          obtain ⟨c1, c2, c3, c4⟩ := C0ok c
          have e1 : (if nm = true then PyData.int t else .int 1) = .int t' := by rw [et]; cases nm <;> rfl
          have e2 : (if nm = true then PyData.int u else .int 0) = .int u' := by rw [eu]; cases nm <;> rfl
          rw [e1, e2] at D'
          rcases due_rest gD c3 c4 c1 c2 D' with ⟨h, _⟩ | ⟨_, h, _⟩ | ⟨_, _, h⟩
          · rw [b5] at h; cases h
          · rw [b10] at h; cases h
          · exact h
        cases nm with
        | true =>
          try simp (maxSteps := 1000000) only [tSeq, tIfS, tTest, tOp, tUn, tCB, tCons, tNil, tVar, tC, rI0, rI, rU, rEq, rNe, tRet, tRetN, tAsg, gName, gSub, tBM, tBM0, tNext, tB, tNot, tAnd, tOr, tIf, tCall, tDrop, tBreak, tCont, L2.start, tDGet, sDPut, tTup, tLst, tDNewK, tRevL, rCat, rAppend, rPop, rSetL, tAndV, tOrV, tNotV, tSl, tPart, tNoPart, tM1, gTup, gCons, gNil, cxK, cxnK, List.map_cons, List.map_nil, List.length_cons, List.length_nil, List.replicate, List.cons_append, List.nil_append, List.append_nil, List.set_cons_zero, List.set_cons_succ, List.getElem?_cons_zero, List.getElem?_cons_succ, Option.some.injEq, V.ref.injEq, V.int.injEq, V.str.injEq, V.bl.injEq, V.ty.injEq, exists_eq_left', exists_eq_left, exists_and_left, List.cons.injEq, and_true, true_and, sc_ii, sc_ss, sc_bb, sc_ni, sc_in, sc_is, sc_si, sc_nn, decide_true, decide_false, reduceCtorEq, Bool.false_eq_true, if_true, if_false, ite_true, ite_false, exists_const, eq_self, false_and, and_false, or_false, false_or, exists_false, Evl.rLenS, rSum, wipe, tYes, exists_eq, exists_eq', rIxL, rIxT, rIxS, exists_and_right, gt_iff_lt, not_true_eq_false, not_false_eq_true, Bool.not_true, Bool.not_false, decide_eq_true_eq, Nat.reduceSub, Nat.reduceAdd, List.append_assoc, tChain, tDIn, tDNotIn, sDDel, tAug, ipI]
          exact ⟨xs2, .inl (sq_l hst2), fun l nl' => ⟨small (by decide), fun p np' => hR _ _ (made t u l p nl' np' (by omega) (by omega) gT gU rfl rfl)⟩⟩
        | false =>
          try simp (maxSteps := 1000000) only [tSeq, tIfS, tTest, tOp, tUn, tCB, tCons, tNil, tVar, tC, rI0, rI, rU, rEq, rNe, tRet, tRetN, tAsg, gName, gSub, tBM, tBM0, tNext, tB, tNot, tAnd, tOr, tIf, tCall, tDrop, tBreak, tCont, L2.start, tDGet, sDPut, tTup, tLst, tDNewK, tRevL, rCat, rAppend, rPop, rSetL, tAndV, tOrV, tNotV, tSl, tPart, tNoPart, tM1, gTup, gCons, gNil, cxK, cxnK, List.map_cons, List.map_nil, List.length_cons, List.length_nil, List.replicate, List.cons_append, List.nil_append, List.append_nil, List.set_cons_zero, List.set_cons_succ, List.getElem?_cons_zero, List.getElem?_cons_succ, Option.some.injEq, V.ref.injEq, V.int.injEq, V.str.injEq, V.bl.injEq, V.ty.injEq, exists_eq_left', exists_eq_left, exists_and_left, List.cons.injEq, and_true, true_and, sc_ii, sc_ss, sc_bb, sc_ni, sc_in, sc_is, sc_si, sc_nn, decide_true, decide_false, reduceCtorEq, Bool.false_eq_true, if_true, if_false, ite_true, ite_false, exists_const, eq_self, false_and, and_false, or_false, false_or, exists_false, Evl.rLenS, rSum, wipe, tYes, exists_eq, exists_eq', rIxL, rIxT, rIxS, exists_and_right, gt_iff_lt, not_true_eq_false, not_false_eq_true, Bool.not_true, Bool.not_false, decide_eq_true_eq, Nat.reduceSub, Nat.reduceAdd, List.append_assoc, tChain, tDIn, tDNotIn, sDDel, tAug, ipI]
          exact ⟨xs2, .inl (sq_l hst2), fun l nl' => ⟨small (by decide), fun p np' => hR _ _ (made 1 0 l p nl' np' (by decide) (by decide) rfl rfl rfl rfl)⟩⟩
      rintro σ H14 hA
      refine seq_cut (LwInv sa a nl st bl sz nm r z0 ds2 ls2 (1 ≤ sz ∧ sz ≤ 80 ∧ bad = [] ∧ r = -1) (fun dt du => belowD 5 dt = true) H13) (fun R hR => ?_) ?_
      · obtain ⟨tv, uv, dv, dt, du, dd, rfl, ht, st', hu, su, hdv, shv, ver, ⟨gt, gu⟩, a14, k14⟩ := hA
        cases nm with
        | false =>
          try simp (maxSteps := 1000000) only [tSeq, tIfS, tTest, tOp, tUn, tCB, tCons, tNil, tVar, tC, rI0, rI, rU, rEq, rNe, tRet, tRetN, tAsg, gName, gSub, tBM, tBM0, tNext, tB, tNot, tAnd, tOr, tIf, tCall, tDrop, tBreak, tCont, L2.start, tDGet, sDPut, tTup, tLst, tDNewK, tRevL, rCat, rAppend, rPop, rSetL, tAndV, tOrV, tNotV, tSl, tPart, tNoPart, tM1, gTup, gCons, gNil, cxK, cxnK, List.map_cons, List.map_nil, List.length_cons, List.length_nil, List.replicate, List.cons_append, List.nil_append, List.append_nil, List.set_cons_zero, List.set_cons_succ, List.getElem?_cons_zero, List.getElem?_cons_succ, Option.some.injEq, V.ref.injEq, V.int.injEq, V.str.injEq, V.bl.injEq, V.ty.injEq, exists_eq_left', exists_eq_left, exists_and_left, List.cons.injEq, and_true, true_and, sc_ii, sc_ss, sc_bb, sc_ni, sc_in, sc_is, sc_si, sc_nn, decide_true, decide_false, reduceCtorEq, Bool.false_eq_true, if_true, if_false, ite_true, ite_false, exists_const, eq_self, false_and, and_false, or_false, false_or, exists_false, Evl.rLenS, rSum, wipe, tYes, exists_eq, exists_eq', rIxL, rIxT, rIxS, exists_and_right, gt_iff_lt, not_true_eq_false, not_false_eq_true, Bool.not_true, Bool.not_false, decide_eq_true_eq, Nat.reduceSub, Nat.reduceAdd, List.append_assoc, tChain, tDIn, tDNotIn, sDDel, tAug, ipI]
          exact hR _ _ ⟨tv, uv, dv, dt, du, dd, rfl, ht, st', hu, su, hdv, shv, ver, gt, a14, k14⟩
        | true =>
          try simp (maxSteps := 1000000) only [tSeq, tIfS, tTest, tOp, tUn, tCB, tCons, tNil, tVar, tC, rI0, rI, rU, rEq, rNe, tRet, tRetN, tAsg, gName, gSub, tBM, tBM0, tNext, tB, tNot, tAnd, tOr, tIf, tCall, tDrop, tBreak, tCont, L2.start, tDGet, sDPut, tTup, tLst, tDNewK, tRevL, rCat, rAppend, rPop, rSetL, tAndV, tOrV, tNotV, tSl, tPart, tNoPart, tM1, gTup, gCons, gNil, cxK, cxnK, List.map_cons, List.map_nil, List.length_cons, List.length_nil, List.replicate, List.cons_append, List.nil_append, List.append_nil, List.set_cons_zero, List.set_cons_succ, List.getElem?_cons_zero, List.getElem?_cons_succ, Option.some.injEq, V.ref.injEq, V.int.injEq, V.str.injEq, V.bl.injEq, V.ty.injEq, exists_eq_left', exists_eq_left, exists_and_left, List.cons.injEq, and_true, true_and, sc_ii, sc_ss, sc_bb, sc_ni, sc_in, sc_is, sc_si, sc_nn, decide_true, decide_false, reduceCtorEq, Bool.false_eq_true, if_true, if_false, ite_true, ite_false, exists_const, eq_self, false_and, and_false, or_false, false_or, exists_false, Evl.rLenS, rSum, wipe, tYes, exists_eq, exists_eq', rIxL, rIxT, rIxS, exists_and_right, gt_iff_lt, not_true_eq_false, not_false_eq_true, Bool.not_true, Bool.not_false, decide_eq_true_eq, Nat.reduceSub, Nat.reduceAdd, List.append_assoc, tChain, tDIn, tDNotIn, sDDel, tAug, ipI]
          refine ⟨a, 4, rfl, a14, by decide, fun x H15 x0 x1 a15 k15 => ?_⟩
          dsimp only
          refine ⟨rfl, ?_⟩
          split
          · refine ⟨a, 9, rfl, a15, by decide, by decide, fun ov od H16 hov ob on osc osz onl ost oab a16 k16 => ⟨small (by decide), fun p np => hR _ _ ?_⟩⟩
            have S16 : Std [a] H16 := fun b hb => by rw [List.mem_singleton.mp hb]; obtain ⟨ns, e, _⟩ := a16; exact ⟨_, e⟩
            refine ⟨tv, ov, .ref p, dt, od, .tuple [.str "BadNumber", od, .bool true], rfl, ht, st', hov, osz, newT S16 np (.cons (.str _) (.cons (hov _) (.cons (.bl true) .nil))), sh_num (odd_sh (hov H) osc ost oab), fun c d' D' => ?_, gt, a16.kp0 (Kp.new np), ((k14.trans k15).trans k16).trans (Kp.new np).of0⟩
            obtain ⟨c1, c2, c3, c4⟩ := C0ok c
            have D' : Due (.str z0) ds2 ls2 dt od d' := D'
            rcases due_rest gD c3 c4 c1 c2 D' with ⟨h, _⟩ | ⟨_, _, h⟩ | ⟨_, h, _⟩
            · rw [show belowD 5 dt = true from gt] at h; cases h
            · exact h
            · rw [show belowD 10 od = false from ob] at h; cases h
          · exact hR _ _ (LwInv.mv ⟨tv, uv, dv, dt, du, dd, rfl, ht, st', hu, su, hdv, shv, ver, gt, a14, k14⟩ k15 a15 id fun _ _ h => h)
      rintro σ H15 hB
      refine seq_cut (LwInv sa a nl st bl sz nm r z0 ds2 ls2 (1 ≤ sz ∧ sz ≤ 80 ∧ bad = [] ∧ r = -1) (fun _ _ => True) H13) (fun R hR => ?_) ?_
      · obtain ⟨tv, uv, dv, dt, du, dd, rfl, ht, st', hu, su, hdv, shv, ver, gt, a14, k14⟩ := hB
        cases nm with
        | false =>
          try simp (maxSteps := 1000000) only [tSeq, tIfS, tTest, tOp, tUn, tCB, tCons, tNil, tVar, tC, rI0, rI, rU, rEq, rNe, tRet, tRetN, tAsg, gName, gSub, tBM, tBM0, tNext, tB, tNot, tAnd, tOr, tIf, tCall, tDrop, tBreak, tCont, L2.start, tDGet, sDPut, tTup, tLst, tDNewK, tRevL, rCat, rAppend, rPop, rSetL, tAndV, tOrV, tNotV, tSl, tPart, tNoPart, tM1, gTup, gCons, gNil, cxK, cxnK, List.map_cons, List.map_nil, List.length_cons, List.length_nil, List.replicate, List.cons_append, List.nil_append, List.append_nil, List.set_cons_zero, List.set_cons_succ, List.getElem?_cons_zero, List.getElem?_cons_succ, Option.some.injEq, V.ref.injEq, V.int.injEq, V.str.injEq, V.bl.injEq, V.ty.injEq, exists_eq_left', exists_eq_left, exists_and_left, List.cons.injEq, and_true, true_and, sc_ii, sc_ss, sc_bb, sc_ni, sc_in, sc_is, sc_si, sc_nn, decide_true, decide_false, reduceCtorEq, Bool.false_eq_true, if_true, if_false, ite_true, ite_false, exists_const, eq_self, false_and, and_false, or_false, false_or, exists_false, Evl.rLenS, rSum, wipe, tYes, exists_eq, exists_eq', rIxL, rIxT, rIxS, exists_and_right, gt_iff_lt, not_true_eq_false, not_false_eq_true, Bool.not_true, Bool.not_false, decide_eq_true_eq, Nat.reduceSub, Nat.reduceAdd, List.append_assoc, tChain, tDIn, tDNotIn, sDDel, tAug, ipI]
          exact hR _ _ ⟨tv, uv, dv, dt, du, dd, rfl, ht, st', hu, su, hdv, shv, ver, trivial, a14, k14⟩
        | true =>
          try simp (maxSteps := 1000000) only [tSeq, tIfS, tTest, tOp, tUn, tCB, tCons, tNil, tVar, tC, rI0, rI, rU, rEq, rNe, tRet, tRetN, tAsg, gName, gSub, tBM, tBM0, tNext, tB, tNot, tAnd, tOr, tIf, tCall, tDrop, tBreak, tCont, L2.start, tDGet, sDPut, tTup, tLst, tDNewK, tRevL, rCat, rAppend, rPop, rSetL, tAndV, tOrV, tNotV, tSl, tPart, tNoPart, tM1, gTup, gCons, gNil, cxK, cxnK, List.map_cons, List.map_nil, List.length_cons, List.length_nil, List.replicate, List.cons_append, List.nil_append, List.append_nil, List.set_cons_zero, List.set_cons_succ, List.getElem?_cons_zero, List.getElem?_cons_succ, Option.some.injEq, V.ref.injEq, V.int.injEq, V.str.injEq, V.bl.injEq, V.ty.injEq, exists_eq_left', exists_eq_left, exists_and_left, List.cons.injEq, and_true, true_and, sc_ii, sc_ss, sc_bb, sc_ni, sc_in, sc_is, sc_si, sc_nn, decide_true, decide_false, reduceCtorEq, Bool.false_eq_true, if_true, if_false, ite_true, ite_false, exists_const, eq_self, false_and, and_false, or_false, false_or, exists_false, Evl.rLenS, rSum, wipe, tYes, exists_eq, exists_eq', rIxL, rIxT, rIxS, exists_and_right, gt_iff_lt, not_true_eq_false, not_false_eq_true, Bool.not_true, Bool.not_false, decide_eq_true_eq, Nat.reduceSub, Nat.reduceAdd, List.append_assoc, tChain, tDIn, tDNotIn, sDDel, tAug, ipI]
          refine ⟨a, 4, rfl, a14, by decide, fun x H15 x0 x1 a15 k15 => ?_⟩
          dsimp only
          refine ⟨rfl, ?_⟩
          split
          · refine ⟨a, 4, rfl, a15, by decide, by decide, fun ov od H16 hov ob on osc osz onl ost oab a16 k16 => ⟨small (by decide), fun p np => hR _ _ ?_⟩⟩
            have S16 : Std [a] H16 := fun b hb => by rw [List.mem_singleton.mp hb]; obtain ⟨ns, e, _⟩ := a16; exact ⟨_, e⟩
            refine ⟨ov, uv, .ref p, od, du, .tuple [.str "BadNumber", od, .bool true], rfl, hov, osz, hu, su, newT S16 np (.cons (.str _) (.cons (hov _) (.cons (.bl true) .nil))), sh_num (odd_sh (hov H) osc ost oab), fun c d' D' => ?_, trivial, a16.kp0 (Kp.new np), ((k14.trans k15).trans k16).trans (Kp.new np).of0⟩
            obtain ⟨c1, c2, c3, c4⟩ := C0ok c
            have D' : Due (.str z0) ds2 ls2 od du d' := D'
            rcases due_rest gD c3 c4 c1 c2 D' with ⟨_, h⟩ | ⟨h, _⟩ | ⟨h, _⟩
            · exact h
            · rw [show belowD 5 od = false from ob] at h; cases h
            · rw [show belowD 5 od = false from ob] at h; cases h
          · exact hR _ _ (LwInv.mv ⟨tv, uv, dv, dt, du, dd, rfl, ht, st', hu, su, hdv, shv, ver, trivial, a14, k14⟩ k15 a15 id fun _ _ h => h)
      rintro σ H16 hC
      -- an error of a step put in
      have put : ∀ {C C' : Prop} {σ0 : L2.St} {G : Hp} {p : Addr} (k : Int), k.natAbs < 5000 → LwInv sa a nl st bl sz nm r z0 ds2 ls2 C (fun _ _ => True) H13 σ0 G → G p = none → (C' → ∀ t' u' d', Due (.str z0) ds2 ls2 t' u' d' → d' = bstep (.str z0) k) → LwInv sa a nl st bl sz nm r z0 ds2 ls2 C' (fun _ _ => True) H13 (σ0.set 11 (some (.ref p))) (upd G p (.tup [.str "BadStep", .str z0, .int k, .bl true])) := by
        intro C C' σ0 G p k hk h np ver'
        obtain ⟨tv, uv, dv, dt, du, dd, rfl, ht, st', hu, su, hdv, shv, ver, _, a14, k14⟩ := h
        have S16 : Std [a] G := fun b hb => by rw [List.mem_singleton.mp hb]; obtain ⟨ns, e, _⟩ := a14; exact ⟨_, e⟩
        exact ⟨tv, uv, .ref p, dt, du, bstep (.str z0) k, rfl, ht, st', hu, su, newT S16 np (.cons (.str _) (.cons (.str _) (.cons (.int _) (.cons (.bl true) .nil)))), sh_bstep g0 hk, fun c d' D' => ver' c _ _ d' D', trivial, a14.kp0 (Kp.new np), k14.trans (Kp.new np).of0⟩
      refine seq_cut (LwInv sa a nl st bl sz nm r z0 ds2 ls2 (1 ≤ sz ∧ sz ≤ 80 ∧ bad = []) (fun _ _ => True) H13) (fun R hR => ?_) ?_
      · have hC' := hC
        obtain ⟨tv, uv, dv, dt, du, dd, rfl, ht, st', hu, su, hdv, shv, ver, _, a14, k14⟩ := hC
        try simp (maxSteps := 1000000) only [tSeq, tIfS, tTest, tOp, tUn, tCB, tCons, tNil, tVar, tC, rI0, rI, rU, rEq, rNe, tRet, tRetN, tAsg, gName, gSub, tBM, tBM0, tNext, tB, tNot, tAnd, tOr, tIf, tCall, tDrop, tBreak, tCont, L2.start, tDGet, sDPut, tTup, tLst, tDNewK, tRevL, rCat, rAppend, rPop, rSetL, tAndV, tOrV, tNotV, tSl, tPart, tNoPart, tM1, gTup, gCons, gNil, cxK, cxnK, List.map_cons, List.map_nil, List.length_cons, List.length_nil, List.replicate, List.cons_append, List.nil_append, List.append_nil, List.set_cons_zero, List.set_cons_succ, List.getElem?_cons_zero, List.getElem?_cons_succ, Option.some.injEq, V.ref.injEq, V.int.injEq, V.str.injEq, V.bl.injEq, V.ty.injEq, exists_eq_left', exists_eq_left, exists_and_left, List.cons.injEq, and_true, true_and, sc_ii, sc_ss, sc_bb, sc_ni, sc_in, sc_is, sc_si, sc_nn, decide_true, decide_false, reduceCtorEq, Bool.false_eq_true, if_true, if_false, ite_true, ite_false, exists_const, eq_self, false_and, and_false, or_false, false_or, exists_false, Evl.rLenS, rSum, wipe, tYes, exists_eq, exists_eq', rIxL, rIxT, rIxS, exists_and_right, gt_iff_lt, not_true_eq_false, not_false_eq_true, Bool.not_true, Bool.not_false, decide_eq_true_eq, Nat.reduceSub, Nat.reduceAdd, List.append_assoc, tChain, tDIn, tDNotIn, sDDel, tAug, ipI]
        split
        · next r0 =>
          obtain ⟨k, rfl, k120, hk⟩ : ∃ k : Nat, r = k ∧ k ≤ 120 ∧ IsF ls2 (some k) := by
            rcases hF with ⟨h, _⟩ | h
            · omega
            · exact h
          exact ⟨small (by decide), fun p np => hR _ _ (put (k : Int) (by omega) hC' np fun c t' u' d' D' => by
            obtain ⟨c1, c2, rfl⟩ := c
            exact due_wrong gD (by omega) (by omega) mx2.good.all hk D')⟩
        · next r0 =>
          exact hR _ _ (hC'.mv (Kp.refl _ _) a14 (fun ⟨c1, c2, c3⟩ => ⟨c1, c2, c3, by
            rcases hF with ⟨h, _⟩ | ⟨k, h, _⟩
            · exact h
            · omega⟩) fun _ _ h => h)
      rintro σ H17 hD
      refine seq_cut (LwInv sa a nl st bl sz nm r z0 ds2 ls2 (1 ≤ sz ∧ sz ≤ 80) (fun _ _ => True) H13) (fun R hR => ?_) ?_
      · have hD' := hD
        obtain ⟨tv, uv, dv, dt, du, dd, rfl, ht, st', hu, su, hdv, shv, ver, _, a14, k14⟩ := hD
        have hblG := k14 _ _ (not1 abl.symm) hbl13
        try simp (maxSteps := 1000000) only [tSeq, tIfS, tTest, tOp, tUn, tCB, tCons, tNil, tVar, tC, rI0, rI, rU, rEq, rNe, tRet, tRetN, tAsg, gName, gSub, tBM, tBM0, tNext, tB, tNot, tAnd, tOr, tIf, tCall, tDrop, tBreak, tCont, L2.start, tDGet, sDPut, tTup, tLst, tDNewK, tRevL, rCat, rAppend, rPop, rSetL, tAndV, tOrV, tNotV, tSl, tPart, tNoPart, tM1, gTup, gCons, gNil, cxK, cxnK, List.map_cons, List.map_nil, List.length_cons, List.length_nil, List.replicate, List.cons_append, List.nil_append, List.append_nil, List.set_cons_zero, List.set_cons_succ, List.getElem?_cons_zero, List.getElem?_cons_succ, Option.some.injEq, V.ref.injEq, V.int.injEq, V.str.injEq, V.bl.injEq, V.ty.injEq, exists_eq_left', exists_eq_left, exists_and_left, List.cons.injEq, and_true, true_and, sc_ii, sc_ss, sc_bb, sc_ni, sc_in, sc_is, sc_si, sc_nn, decide_true, decide_false, reduceCtorEq, Bool.false_eq_true, if_true, if_false, ite_true, ite_false, exists_const, eq_self, false_and, and_false, or_false, false_or, exists_false, Evl.rLenS, rSum, wipe, tYes, exists_eq, exists_eq', rIxL, rIxT, rIxS, exists_and_right, gt_iff_lt, not_true_eq_false, not_false_eq_true, Bool.not_true, Bool.not_false, decide_eq_true_eq, Nat.reduceSub, Nat.reduceAdd, List.append_assoc, tChain, tDIn, tDNotIn, sDDel, tAug, ipI]
        refine ⟨_, .inl (sq_l hblG), ?_⟩
        rw [List.length_map]
        cases bad with
        | nil =>
          rw [if_neg (by simp)]
          exact hR _ _ (hD'.mv (Kp.refl _ _) a14 (fun ⟨c1, c2⟩ => ⟨c1, c2, rfl⟩) fun _ _ h => h)
        | cons b0 br =>
          rw [if_pos (by simp)]
          have hb0 := rng b0 List.mem_cons_self
          have eb : ((b0.toNat : Nat) : Int) = b0 := Int.toNat_of_nonneg hb0.1
          refine ⟨_, sq_l hblG, .int b0, atI_of (by decide) rfl, small (by decide), fun p np => hR _ _ (put b0 (by omega) hD' np fun c t' u' d' D' => ?_)⟩
          have := due_bad (k := b0.toNat) gD (by omega) (by omega) (mixed_first mx2 srt (by omega)) D'
          rw [eb] at this
          exact this
      rintro σ H18 hE
      refine seq_cut (LwInv sa a nl st bl sz nm r z0 ds2 ls2 (1 ≤ sz) (fun _ _ => True) H13) (fun R hR => ?_) ?_
      · have hE' := hE
        obtain ⟨tv, uv, dv, dt, du, dd, rfl, ht, st', hu, su, hdv, shv, ver, _, a14, k14⟩ := hE
        try simp (maxSteps := 1000000) only [tSeq, tIfS, tTest, tOp, tUn, tCB, tCons, tNil, tVar, tC, rI0, rI, rU, rEq, rNe, tRet, tRetN, tAsg, gName, gSub, tBM, tBM0, tNext, tB, tNot, tAnd, tOr, tIf, tCall, tDrop, tBreak, tCont, L2.start, tDGet, sDPut, tTup, tLst, tDNewK, tRevL, rCat, rAppend, rPop, rSetL, tAndV, tOrV, tNotV, tSl, tPart, tNoPart, tM1, gTup, gCons, gNil, cxK, cxnK, List.map_cons, List.map_nil, List.length_cons, List.length_nil, List.replicate, List.cons_append, List.nil_append, List.append_nil, List.set_cons_zero, List.set_cons_succ, List.getElem?_cons_zero, List.getElem?_cons_succ, Option.some.injEq, V.ref.injEq, V.int.injEq, V.str.injEq, V.bl.injEq, V.ty.injEq, exists_eq_left', exists_eq_left, exists_and_left, List.cons.injEq, and_true, true_and, sc_ii, sc_ss, sc_bb, sc_ni, sc_in, sc_is, sc_si, sc_nn, decide_true, decide_false, reduceCtorEq, Bool.false_eq_true, if_true, if_false, ite_true, ite_false, exists_const, eq_self, false_and, and_false, or_false, false_or, exists_false, Evl.rLenS, rSum, wipe, tYes, exists_eq, exists_eq', rIxL, rIxT, rIxS, exists_and_right, gt_iff_lt, not_true_eq_false, not_false_eq_true, Bool.not_true, Bool.not_false, decide_eq_true_eq, Nat.reduceSub, Nat.reduceAdd, List.append_assoc, tChain, tDIn, tDNotIn, sDDel, tAug, ipI]
        split
        · next g80 => exact ⟨small (by decide), fun p np => hR _ _ (put 80 (by decide) hE' np fun c t' u' d' D' => due_many gD (by omega) D')⟩
        · next g80 => exact hR _ _ (hE'.mv (Kp.refl _ _) a14 (fun c => ⟨c, by omega⟩) fun _ _ h => h)
      rintro σ H19 hG
      refine seq_cut (LwInv sa a nl st bl sz nm r z0 ds2 ls2 True (fun _ _ => True) H13) (fun R hR => ?_) ?_
      · have hG' := hG
        obtain ⟨tv, uv, dv, dt, du, dd, rfl, ht, st', hu, su, hdv, shv, ver, _, a14, k14⟩ := hG
        try simp (maxSteps := 1000000) only [tSeq, tIfS, tTest, tOp, tUn, tCB, tCons, tNil, tVar, tC, rI0, rI, rU, rEq, rNe, tRet, tRetN, tAsg, gName, gSub, tBM, tBM0, tNext, tB, tNot, tAnd, tOr, tIf, tCall, tDrop, tBreak, tCont, L2.start, tDGet, sDPut, tTup, tLst, tDNewK, tRevL, rCat, rAppend, rPop, rSetL, tAndV, tOrV, tNotV, tSl, tPart, tNoPart, tM1, gTup, gCons, gNil, cxK, cxnK, List.map_cons, List.map_nil, List.length_cons, List.length_nil, List.replicate, List.cons_append, List.nil_append, List.append_nil, List.set_cons_zero, List.set_cons_succ, List.getElem?_cons_zero, List.getElem?_cons_succ, Option.some.injEq, V.ref.injEq, V.int.injEq, V.str.injEq, V.bl.injEq, V.ty.injEq, exists_eq_left', exists_eq_left, exists_and_left, List.cons.injEq, and_true, true_and, sc_ii, sc_ss, sc_bb, sc_ni, sc_in, sc_is, sc_si, sc_nn, decide_true, decide_false, reduceCtorEq, Bool.false_eq_true, if_true, if_false, ite_true, ite_false, exists_const, eq_self, false_and, and_false, or_false, false_or, exists_false, Evl.rLenS, rSum, wipe, tYes, exists_eq, exists_eq', rIxL, rIxT, rIxS, exists_and_right, gt_iff_lt, not_true_eq_false, not_false_eq_true, Bool.not_true, Bool.not_false, decide_eq_true_eq, Nat.reduceSub, Nat.reduceAdd, List.append_assoc, tChain, tDIn, tDNotIn, sDDel, tAug, ipI]
        split
        · next g80 => exact ⟨small (by decide), fun p np => hR _ _ (put 0 (by decide) hG' np fun c t' u' d' D' => due_zero gD (by omega) D')⟩
        · next g80 => exact hR _ _ (hG'.mv (Kp.refl _ _) a14 (fun c => by omega) fun _ _ h => h)
      rintro σ H20 hI
      obtain ⟨tv, uv, dv, dt, du, dd, rfl, ht, st', hu, su, hdv, shv, ver, _, a20, k20⟩ := hI
      refine seq_cut (fun σ H' => ∃ (nv dv : V) (dn dd : PyData), σ = [some (.ref sa), some (.ref a), some (.ref nl), some (.int (sz : Nat)), some (.ref st), some tv, some uv, some (.bl nm), some (.ref bl), some (.int r), some nv, some dv, none, none] ∧ Dq (wo [a] H') nv dn ∧ szD dn = true ∧ Dq (wo [a] H') dv dd ∧ Sh 10 900000 dd ∧ (∀ d', Due dn ds2 ls2 (if nm then dt else .int 1) (if nm then du else .int 0) d' → d' = dd) ∧ Kp [a] H13 H') (fun R hR => ?_) ?_
      · try simp (maxSteps := 1000000) only [tSeq, tIfS, tTest, tOp, tUn, tCB, tCons, tNil, tVar, tC, rI0, rI, rU, rEq, rNe, tRet, tRetN, tAsg, gName, gSub, tBM, tBM0, tNext, tB, tNot, tAnd, tOr, tIf, tCall, tDrop, tBreak, tCont, L2.start, tDGet, sDPut, tTup, tLst, tDNewK, tRevL, rCat, rAppend, rPop, rSetL, tAndV, tOrV, tNotV, tSl, tPart, tNoPart, tM1, gTup, gCons, gNil, cxK, cxnK, List.map_cons, List.map_nil, List.length_cons, List.length_nil, List.replicate, List.cons_append, List.nil_append, List.append_nil, List.set_cons_zero, List.set_cons_succ, List.getElem?_cons_zero, List.getElem?_cons_succ, Option.some.injEq, V.ref.injEq, V.int.injEq, V.str.injEq, V.bl.injEq, V.ty.injEq, exists_eq_left', exists_eq_left, exists_and_left, List.cons.injEq, and_true, true_and, sc_ii, sc_ss, sc_bb, sc_ni, sc_in, sc_is, sc_si, sc_nn, decide_true, decide_false, reduceCtorEq, Bool.false_eq_true, if_true, if_false, ite_true, ite_false, exists_const, eq_self, false_and, and_false, or_false, false_or, exists_false, Evl.rLenS, rSum, wipe, tYes, exists_eq, exists_eq', rIxL, rIxT, rIxS, exists_and_right, gt_iff_lt, not_true_eq_false, not_false_eq_true, Bool.not_true, Bool.not_false, decide_eq_true_eq, Nat.reduceSub, Nat.reduceAdd, List.append_assoc, tChain, tDIn, tDNotIn, sDDel, tAug, ipI]
        refine ⟨a, 8, rfl, a20, by decide, fun x H' x0 x8 a' k' => ?_⟩
        dsimp only
        refine ⟨rfl, ?_⟩
        have kk := k20.trans k'
        split
        · refine ⟨a, rfl, a', fun z G1 nz lz okz aG kG => ⟨it8 (by decide), fun p1 n1 => ⟨it8 (by decide), fun p2 n2 => ?_⟩⟩⟩
          have S1 : Std [a] G1 := fun b hb => by rw [List.mem_singleton.mp hb]; obtain ⟨ns, e, _⟩ := aG; exact ⟨_, e⟩
          have k1 := (Kp.new n1 : Kp [] G1 (upd G1 p1 (.tup [.str "a"])))
          have d1 := newT S1 n1 (us := [.str "a"]) (ds := [.str "a"]) (.cons (.str _) .nil)
          have aG2 := aG.kp0 k1
          generalize hG2 : upd G1 p1 (.tup [.str "a"]) = G2 at k1 d1 aG2 n2
          have k2 := (Kp.new n2 : Kp [] G2 (upd G2 p2 (.lst [.str z, .int 7, .non, .bl true, .ref p1])))
          have h2 : (upd G2 p2 (.lst [.str z, .int 7, .non, .bl true, .ref p1])) p2 = some (.lst [.str z, .int 7, .non, .bl true, .ref p1]) := upd_same
          have n2a : p2 ≠ a := Ne.symm (aG2.ne n2)
          generalize hG3 : upd G2 p2 (.lst [.str z, .int 7, .non, .bl true, .ref p1]) = G3 at k2 h2
          refine ⟨a, 5, rfl, aG2.kp0 k2, by decide, fun y G4 y0 y5 a4 k4 => ?_⟩
          have all : DqAll (wo [a] G4) [.str z, .int 7, .non, .bl true, .ref p1] [.str z, .int 7, .none, .bool true, .tuple [.str "a"]] := .cons (.str z) (.cons (.int 7) (.cons .non (.cons (.bl true) (.cons (d1.kp (wo_kp (k2.of0.trans k4))) .nil))))
          obtain ⟨v, d, ev, hm, hv⟩ := dq_pick all y0 y5
          have fact : nameD d = false ∧ szD d = true ∧ Sh 2 30 d := by
            simp only [List.mem_cons, List.not_mem_nil, or_false] at hm
            rcases hm with rfl | rfl | rfl | rfl | rfl
            · exact ⟨nz, decide_eq_true (by omega), (sh_strO okz lz).mono (by decide) (by decide)⟩
            · exact ⟨rfl, rfl, (sh_intB (by decide)).mono (by decide) (by decide)⟩
            · exact ⟨rfl, rfl, sh_none.mono (by decide) (by decide)⟩
            · exact ⟨rfl, rfl, sh_bool.mono (by decide) (by decide)⟩
            · exact ⟨rfl, by decide +kernel, (sh_tup (k := 1) (b := 8) fun e he => by rw [List.mem_singleton.mp he]; exact sh_strO (by decide +kernel) (by decide +kernel)).mono (by decide) (by decide +kernel)⟩
          refine ⟨_, y, rfl, sq_l (k4 _ _ (not1 n2a) h2), v, ev, it8 (by decide), fun p3 n3 => hR _ _ ?_⟩
          have S4 : Std [a] G4 := fun b hb => by rw [List.mem_singleton.mp hb]; obtain ⟨ns, e, _⟩ := a4; exact ⟨_, e⟩
          have k5 := (Kp.new n3 : Kp [] G4 (upd G4 p3 (.tup [.str "BadName", v, .bl true])))
          refine ⟨v, .ref p3, d, .tuple [.str "BadName", d, .bool true], rfl, hv.kp (wo_kp k5.of0), fact.2.1, newT S4 n3 (.cons (.str _) (.cons hv (.cons (.bl true) .nil))), ?_, fun d' D' => due_name fact.1 D', ((((kk.trans kG).trans k1.of0).trans k2.of0).trans k4).trans k5.of0⟩
          refine (sh_tup (k := 2) (b := 30) fun e he => ?_).mono (by decide) (by show 31 * 3 ≤ 900000; decide)
          simp only [List.mem_cons, List.not_mem_nil, or_false] at he
          rcases he with rfl | rfl | rfl
          · exact (sh_strO (b := 8) (by decide +kernel) (by decide +kernel)).mono (by decide) (by decide)
          · exact fact.2.2
          · exact sh_bool.mono (by decide) (by decide)
        · exact hR _ _ ⟨.str z0, dv, .str z0, dd, rfl, .str z0, nameS_sz g0, hdv.kp (wo_kp k'), shv, ver trivial, kk⟩
      rintro σ H21 ⟨nv, dv, dn, dd, rfl, hnv, snv, hdv, shv, ver, k21⟩
      have hst21 := k21 _ _ (not1 ast.symm) hst2
      have hd21 : DqAll H21 xs2 ds2 := DqAll.kp wo_to (DqAll.kp (wo_kp k21) hd13)
      have shl : Sh 60 1000000 (.list ds2) := (sh_lst shd).mono (by decide) (by omega)
      refine seq_step ?_
      try simp (maxSteps := 1000000) only [tIfS, tTest, tOp, tUn, tCB, tCons, tNil, tVar, tC, rI0, rI, rU, rEq, rNe, tRet, tRetN, tAsg, gName, gSub, tBM, tBM0, tNext, tB, tNot, tAnd, tOr, tIf, tCall, tDrop, tBreak, tCont, L2.start, tDGet, sDPut, tTup, tLst, tDNewK, tRevL, rCat, rAppend, rPop, rSetL, tAndV, tOrV, tNotV, tSl, tPart, tNoPart, tM1, gTup, gCons, gNil, cxK, cxnK, List.map_cons, List.map_nil, List.length_cons, List.length_nil, List.replicate, List.cons_append, List.nil_append, List.append_nil, List.set_cons_zero, List.set_cons_succ, List.getElem?_cons_zero, List.getElem?_cons_succ, Option.some.injEq, V.ref.injEq, V.int.injEq, V.str.injEq, V.bl.injEq, V.ty.injEq, exists_eq_left', exists_eq_left, exists_and_left, List.cons.injEq, and_true, true_and, sc_ii, sc_ss, sc_bb, sc_ni, sc_in, sc_is, sc_si, sc_nn, decide_true, decide_false, reduceCtorEq, Bool.false_eq_true, if_true, if_false, ite_true, ite_false, exists_const, eq_self, false_and, and_false, or_false, false_or, exists_false, Evl.rLenS, rSum, wipe, tYes, exists_eq, exists_eq', rIxL, rIxT, rIxS, exists_and_right, gt_iff_lt, not_true_eq_false, not_false_eq_true, Bool.not_true, Bool.not_false, decide_eq_true_eq, Nat.reduceSub, Nat.reduceAdd, List.append_assoc, tChain, tDIn, tDNotIn, sDDel, tAug, ipI]
      refine ⟨xs2, .inl (sq_l hst21), fun p np => ?_⟩
      have kp := (Kp.new np : Kp [] H21 (upd H21 p (.lst xs2)))
      have hp : (upd H21 p (.lst xs2)) p = some (.lst xs2) := upd_same
      generalize upd H21 p (.lst xs2) = H22 at kp hp ⊢
      have hd22 := DqAll.kp kp hd21
      refine seq_step ?_
      try simp (maxSteps := 1000000) only [tIfS, tTest, tOp, tUn, tCB, tCons, tNil, tVar, tC, rI0, rI, rU, rEq, rNe, tRet, tRetN, tAsg, gName, gSub, tBM, tBM0, tNext, tB, tNot, tAnd, tOr, tIf, tCall, tDrop, tBreak, tCont, L2.start, tDGet, sDPut, tTup, tLst, tDNewK, tRevL, rCat, rAppend, rPop, rSetL, tAndV, tOrV, tNotV, tSl, tPart, tNoPart, tM1, gTup, gCons, gNil, cxK, cxnK, List.map_cons, List.map_nil, List.length_cons, List.length_nil, List.replicate, List.cons_append, List.nil_append, List.append_nil, List.set_cons_zero, List.set_cons_succ, List.getElem?_cons_zero, List.getElem?_cons_succ, Option.some.injEq, V.ref.injEq, V.int.injEq, V.str.injEq, V.bl.injEq, V.ty.injEq, exists_eq_left', exists_eq_left, exists_and_left, List.cons.injEq, and_true, true_and, sc_ii, sc_ss, sc_bb, sc_ni, sc_in, sc_is, sc_si, sc_nn, decide_true, decide_false, reduceCtorEq, Bool.false_eq_true, if_true, if_false, ite_true, ite_false, exists_const, eq_self, false_and, and_false, or_false, false_or, exists_false, Evl.rLenS, rSum, wipe, tYes, exists_eq, exists_eq', rIxL, rIxT, rIxS, exists_and_right, gt_iff_lt, not_true_eq_false, not_false_eq_true, Bool.not_true, Bool.not_false, decide_eq_true_eq, Nat.reduceSub, Nat.reduceAdd, List.append_assoc, tChain, tDIn, tDNotIn, sDDel, tAug, ipI]
      refine ⟨nv, tv, uv, dn, dt, du, nm, p, xs2, ds2, ls2, rfl, (hnv.kp wo_to).kp kp, snv, hp, hd22, fun d hd => ⟨(mixed_ok mx2 d hd).1, (mixed_ok mx2 d hd).2.1⟩, by omega, ht _, st', hu _, su, fun al => ?_, fun v dd' H23 D' hv' k' => ?_⟩
      · have eb := mixed_all mx2 (fun b hb => by have := rng b hb; omega) al
        subst eb
        exact mx2.good.steps hd22
      have edd := ver dd' D'
      subst edd
      have k2 := kp.trans k'
      try simp (maxSteps := 1000000) only [tSeq, tIfS, tTest, tOp, tUn, tCB, tCons, tNil, tVar, tC, rI0, rI, rU, rEq, rNe, tRet, tRetN, tAsg, gName, gSub, tBM, tBM0, tNext, tB, tNot, tAnd, tOr, tIf, tCall, tDrop, tBreak, tCont, L2.start, tDGet, sDPut, tTup, tLst, tDNewK, tRevL, rCat, rAppend, rPop, rSetL, tAndV, tOrV, tNotV, tSl, tPart, tNoPart, tM1, gTup, gCons, gNil, cxK, cxnK, List.map_cons, List.map_nil, List.length_cons, List.length_nil, List.replicate, List.cons_append, List.nil_append, List.append_nil, List.set_cons_zero, List.set_cons_succ, List.getElem?_cons_zero, List.getElem?_cons_succ, Option.some.injEq, V.ref.injEq, V.int.injEq, V.str.injEq, V.bl.injEq, V.ty.injEq, exists_eq_left', exists_eq_left, exists_and_left, List.cons.injEq, and_true, true_and, sc_ii, sc_ss, sc_bb, sc_ni, sc_in, sc_is, sc_si, sc_nn, decide_true, decide_false, reduceCtorEq, Bool.false_eq_true, if_true, if_false, ite_true, ite_false, exists_const, eq_self, false_and, and_false, or_false, false_or, exists_false, Evl.rLenS, rSum, wipe, tYes, exists_eq, exists_eq', rIxL, rIxT, rIxS, exists_and_right, gt_iff_lt, not_true_eq_false, not_false_eq_true, Bool.not_true, Bool.not_false, decide_eq_true_eq, Nat.reduceSub, Nat.reduceAdd, List.append_assoc, tChain, tDIn, tDNotIn, sDDel, tAug, ipI]
      refine ⟨v, dd', rfl, hv', shv.mono (by decide) (by decide), dv, dd', rfl, (hdv.kp wo_to).kp k2, shv.mono (by decide) (by decide), rfl, ?_⟩
      rw [if_pos rfl]
      have hd23 := DqAll.kp k2 hd21
      refine ⟨_, .list ds2, rfl, .lst (k' _ _ not0 hp) hd23, shl, _, .list ds2, rfl, .lst (k2 _ _ not0 hst21) hd23, shl, rfl, ?_⟩
      rw [decide_eq_true rfl]
      exact q H23
end
end My

set_option Elab.async false
set_option linter.all false
set_option maxRecDepth 100000
set_option maxHeartbeats 8000000
namespace My
open PySem L2 NdefX StX L2H
theorem exm_sub {K : PySem.W.Frag} {S D : Addr} {b : Bool} (h1 : PySem.W.subIn K (.ref D) (.type "BaseException") = some true) (h2 : PySem.W.isClsIn K D = true) (h3 : PySem.W.typeIn K (.ref D) = some (.type "type"))
    (h4 : PySem.W.subIn K (.ref S) (.ref D) = some b) : PySem.W.exmOne K (.ref S) (.ref D) = some b := by
  have i2 : (PySem.W.clsIn K D).isSome = true := h2
  unfold PySem.W.exmOne
  simp [PySem.W.kitCls, h1, i2, h3, h4]
theorem kit_self {K : PySem.W.Frag} {S : Addr} : PySem.W.kitOne K (.ref S) (.ref S) = some true := by
  unfold PySem.W.kitOne
  rw [if_pos (beq_self_eq_true _)]
theorem kit_sub {K : PySem.W.Frag} {S D : Addr} {b : Bool} (h1 : ((Value.ref S) == (Value.ref D)) = false) (h2 : PySem.W.isClsIn K D = true) (h3 : PySem.W.typeIn K (.ref D) = some (.type "type")) (h4 : PySem.W.subIn K (.ref S) (.ref D) = some b) : PySem.W.kitOne K (.ref S) (.ref D) = some b := by
  have i2 : (PySem.W.clsIn K D).isSome = true := h2
  unfold PySem.W.kitOne
  rw [h1]
  simp [PySem.W.kitCls, i2, h3, h4]
theorem kit_ty {K : PySem.W.Frag} {S : Addr} {T : String} {b : Bool} (h1 : PySem.W.kitMeta T = true) (h4 : PySem.W.subIn K (.ref S) (.type T) = some b) : PySem.W.kitOne K (.ref S) (.type T) = some b := by
  unfold PySem.W.kitOne
  rw [if_neg (by rw [show ((Value.ref S) == (Value.type T)) = false from beq_eq_false_iff_ne.mpr (fun z => nomatch z)]; exact Bool.false_ne_true)]
  simp [PySem.W.kitCls, h1, h4]
theorem all_mk {l : PySem.W.OpenLaw} {w : World} {K : PySem.W.Frag} {h : Heap} {mg : Str → Option Value} {fa : Addr} (X : K.In h) (G : h.Ns mainGlobals mg) (hfa : mg "law" = some (.ref fa))
    {f0 : Addr}
    {od0 an0 : Option Addr}
    {sl0 : Array (Option Value)}
    {oc0 kV0 dc0 pm0 cd0 ct0 : Value}
    {f1 : Addr}
    {od1 an1 : Option Addr}
    {sl1 : Array (Option Value)}
    {oc1 kV1 dc1 pm1 cd1 ct1 : Value}
    {f2 : Addr}
    {od2 an2 : Option Addr}
    {sl2 : Array (Option Value)}
    {oc2 kV2 dc2 pm2 cd2 ct2 : Value}
    {f3 : Addr}
    {od3 an3 : Option Addr}
    {sl3 : Array (Option Value)}
    {oc3 kV3 dc3 pm3 cd3 ct3 : Value}
    {f4 : Addr}
    {od4 an4 : Option Addr}
    {sl4 : Array (Option Value)}
    {oc4 kV4 dc4 pm4 cd4 ct4 : Value}
    {f5 : Addr}
    {od5 an5 : Option Addr}
    {sl5 : Array (Option Value)}
    {oc5 kV5 dc5 pm5 cd5 ct5 : Value}
    {f6 : Addr}
    {od6 an6 : Option Addr}
    {sl6 : Array (Option Value)}
    {oc6 kV6 dc6 pm6 cd6 ct6 : Value}
    {f7 : Addr}
    {od7 an7 : Option Addr}
    {sl7 : Array (Option Value)}
    {oc7 kV7 dc7 pm7 cd7 ct7 : Value}
    {f8 : Addr}
    {od8 an8 : Option Addr}
    {sl8 : Array (Option Value)}
    {oc8 kV8 dc8 pm8 cd8 ct8 : Value}
    {f9 : Addr}
    {od9 an9 : Option Addr}
    {sl9 : Array (Option Value)}
    {oc9 kV9 dc9 pm9 cd9 ct9 : Value}
    {f10 : Addr}
    {od10 an10 : Option Addr}
    {sl10 : Array (Option Value)}
    {oc10 kV10 dc10 pm10 cd10 ct10 : Value}
    {f11 : Addr}
    {od11 an11 : Option Addr}
    {sl11 : Array (Option Value)}
    {oc11 kV11 dc11 pm11 cd11 ct11 : Value}
    {f12 : Addr}
    {od12 an12 : Option Addr}
    {sl12 : Array (Option Value)}
    {oc12 kV12 dc12 pm12 cd12 ct12 : Value}
    {f13 : Addr}
    {od13 an13 : Option Addr}
    {sl13 : Array (Option Value)}
    {oc13 kV13 dc13 pm13 cd13 ct13 : Value}
    {f14 : Addr}
    {od14 an14 : Option Addr}
    {sl14 : Array (Option Value)}
    {oc14 kV14 dc14 pm14 cd14 ct14 : Value}
    {f15 : Addr}
    {od15 an15 : Option Addr}
    {sl15 : Array (Option Value)}
    {oc15 kV15 dc15 pm15 cd15 ct15 : Value}
    {f16 : Addr}
    {od16 an16 : Option Addr}
    {sl16 : Array (Option Value)}
    {oc16 kV16 dc16 pm16 cd16 ct16 : Value}
    {f17 : Addr}
    {od17 an17 : Option Addr}
    {sl17 : Array (Option Value)}
    {oc17 kV17 dc17 pm17 cd17 ct17 : Value}
    {f18 : Addr}
    {od18 an18 : Option Addr}
    {sl18 : Array (Option Value)}
    {oc18 kV18 dc18 pm18 cd18 ct18 : Value}
    {f19 : Addr}
    {od19 an19 : Option Addr}
    {sl19 : Array (Option Value)}
    {oc19 kV19 dc19 pm19 cd19 ct19 : Value}
    {f20 : Addr}
    {od20 an20 : Option Addr}
    {sl20 : Array (Option Value)}
    {oc20 kV20 dc20 pm20 cd20 ct20 : Value}
    {f21 : Addr}
    {od21 an21 : Option Addr}
    {sl21 : Array (Option Value)}
    {oc21 kV21 dc21 pm21 cd21 ct21 : Value}
    {f22 : Addr}
    {od22 an22 : Option Addr}
    {sl22 : Array (Option Value)}
    {oc22 kV22 dc22 pm22 cd22 ct22 : Value}
    {f23 : Addr}
    {od23 an23 : Option Addr}
    {sl23 : Array (Option Value)}
    {oc23 kV23 dc23 pm23 cd23 ct23 : Value}
    {f24 : Addr}
    {od24 an24 : Option Addr}
    {sl24 : Array (Option Value)}
    {oc24 kV24 dc24 pm24 cd24 ct24 : Value}
    {f25 : Addr}
    {od25 an25 : Option Addr}
    {sl25 : Array (Option Value)}
    {oc25 kV25 dc25 pm25 cd25 ct25 : Value}
    {f26 : Addr}
    {od26 an26 : Option Addr}
    {sl26 : Array (Option Value)}
    {oc26 kV26 dc26 pm26 cd26 ct26 : Value}
    {f27 : Addr}
    {od27 an27 : Option Addr}
    {sl27 : Array (Option Value)}
    {oc27 kV27 dc27 pm27 cd27 ct27 : Value}
    {f28 : Addr}
    {od28 an28 : Option Addr}
    {sl28 : Array (Option Value)}
    {oc28 kV28 dc28 pm28 cd28 ct28 : Value}
    {sL : Str}
    {tL : Tok}
    {tX1 : Tok}
    {tX2 : Tok}
    {BN feN ccN cdaN NN : Addr}
    {nmN qnN fileN : Str}
    {bsN bmN sbN : List Value}
    {snN : List Str}
    {abN : Bool}
    {coN : Option Bool}
    {ddN odN anN cdN ceN : Option Addr}
    {m0N m1N m2N m3N m5N : Option Value}
    {vsN : Array Value}
    {tfN : Tok}
    {slN csN czN : Array (Option Value)}
    {ocN kVN dcN pmN ctN clN cxN : Value}
    {BS feS ccS cdaS NS : Addr}
    {nmS qnS fileS : Str}
    {bsS bmS sbS : List Value}
    {snS : List Str}
    {abS : Bool}
    {coS : Option Bool}
    {ddS odS anS cdS ceS : Option Addr}
    {m0S m1S m2S m3S m5S : Option Value}
    {vsS : Array Value}
    {tfS : Tok}
    {slS csS czS : Array (Option Value)}
    {ocS kVS dcS pmS ctS clS cxS : Value}
    {BM feM ccM cdaM NM : Addr}
    {nmM qnM fileM : Str}
    {bsM bmM sbM : List Value}
    {snM : List Str}
    {abM : Bool}
    {coM : Option Bool}
    {ddM odM anM cdM ceM : Option Addr}
    {m0M m1M m2M m3M m5M : Option Value}
    {vsM : Array Value}
    {tfM : Tok}
    {slM csM czM : Array (Option Value)}
    {ocM kVM dcM pmM ctM clM cxM : Value}
    {CE : Addr}
    {OP : Addr}
    {DK FA SG : Addr}
    {tk1 tk2 : Tok}
    {esF : Array DictEntry}
    {nF : Nat}
    {fTI : Addr}
    {odTI anTI : Option Addr}
    {slTI : Array (Option Value)}
    {ocTI dcTI pmTI cdTI ctTI : Value}
    {fTS : Addr}
    {odTS anTS : Option Addr}
    {slTS : Array (Option Value)}
    {ocTS kVTS dcTS pmTS cdTS ctTS : Value}
    {R0 R1 R2 R3 R4 R5 R6 R7 R8 R9 R10 R11 : Addr}
    {its0 its1 its2 its3 its4 its5 its6 its7 its8 its9 its10 its11 its12 : Array Value}
    {nt0 nt1 nt2 nt3 nt4 nt5 nt6 nt7 nt8 nt9 nt10 nt11 nt12 : Nat}
    {sq0 sq1 sq2 sq3 sq4 sq5 sq6 sq7 sq8 sq9 sq10 sq11 sq12 : Array (Option Value)}
    {dt0 dt1 dt2 dt3 dt4 dt5 dt6 dt7 dt8 dt9 dt10 dt11 dt12 : Option Addr}
    (a0 : PySem.W.nsIn K mainGlobals "is_name" = some (some (.ref f0)))
    (l0 : K.lookup f0 = some ⟨oc0, od0, .func (PySem.W.fnOf "is_name" "is_name" (defArgs s_is_name) (defBody s_is_name) (defScope s_is_name) .none kV0 dc0 pm0 an0 cd0 ct0), sl0⟩)
    (c0 : PySem.W.codeIn K cd0 "is_name" = true)
    (k0 : PySem.W.keepIn K (.ref f0) = true)
    (a1 : PySem.W.nsIn K mainGlobals "is_below" = some (some (.ref f1)))
    (l1 : K.lookup f1 = some ⟨oc1, od1, .func (PySem.W.fnOf "is_below" "is_below" (defArgs s_is_below) (defBody s_is_below) (defScope s_is_below) .none kV1 dc1 pm1 an1 cd1 ct1), sl1⟩)
    (c1 : PySem.W.codeIn K cd1 "is_below" = true)
    (k1 : PySem.W.keepIn K (.ref f1) = true)
    (a2 : PySem.W.nsIn K mainGlobals "is_number" = some (some (.ref f2)))
    (l2 : K.lookup f2 = some ⟨oc2, od2, .func (PySem.W.fnOf "is_number" "is_number" (defArgs s_is_number) (defBody s_is_number) (defScope s_is_number) .none kV2 dc2 pm2 an2 cd2 ct2), sl2⟩)
    (c2 : PySem.W.codeIn K cd2 "is_number" = true)
    (k2 : PySem.W.keepIn K (.ref f2) = true)
    (a3 : PySem.W.nsIn K mainGlobals "is_place" = some (some (.ref f3)))
    (l3 : K.lookup f3 = some ⟨oc3, od3, .func (PySem.W.fnOf "is_place" "is_place" (defArgs s_is_place) (defBody s_is_place) (defScope s_is_place) .none kV3 dc3 pm3 an3 cd3 ct3), sl3⟩)
    (c3 : PySem.W.codeIn K cd3 "is_place" = true)
    (k3 : PySem.W.keepIn K (.ref f3) = true)
    (a4 : PySem.W.nsIn K mainGlobals "is_worth" = some (some (.ref f4)))
    (l4 : K.lookup f4 = some ⟨oc4, od4, .func (PySem.W.fnOf "is_worth" "is_worth" (defArgs s_is_worth) (defBody s_is_worth) (defScope s_is_worth) .none kV4 dc4 pm4 an4 cd4 ct4), sl4⟩)
    (c4 : PySem.W.codeIn K cd4 "is_worth" = true)
    (k4 : PySem.W.keepIn K (.ref f4) = true)
    (a5 : PySem.W.nsIn K mainGlobals "is_guard" = some (some (.ref f5)))
    (l5 : K.lookup f5 = some ⟨oc5, od5, .func (PySem.W.fnOf "is_guard" "is_guard" (defArgs s_is_guard) (defBody s_is_guard) (defScope s_is_guard) .none kV5 dc5 pm5 an5 cd5 ct5), sl5⟩)
    (c5 : PySem.W.codeIn K cd5 "is_guard" = true)
    (k5 : PySem.W.keepIn K (.ref f5) = true)
    (a6 : PySem.W.nsIn K mainGlobals "is_part" = some (some (.ref f6)))
    (l6 : K.lookup f6 = some ⟨oc6, od6, .func (PySem.W.fnOf "is_part" "is_part" (defArgs s_is_part) (defBody s_is_part) (defScope s_is_part) .none kV6 dc6 pm6 an6 cd6 ct6), sl6⟩)
    (c6 : PySem.W.codeIn K cd6 "is_part" = true)
    (k6 : PySem.W.keepIn K (.ref f6) = true)
    (a7 : PySem.W.nsIn K mainGlobals "is_step" = some (some (.ref f7)))
    (l7 : K.lookup f7 = some ⟨oc7, od7, .func (PySem.W.fnOf "is_step" "is_step" (defArgs s_is_step) (defBody s_is_step) (defScope s_is_step) .none kV7 dc7 pm7 an7 cd7 ct7), sl7⟩)
    (c7 : PySem.W.codeIn K cd7 "is_step" = true)
    (k7 : PySem.W.keepIn K (.ref f7) = true)
    (a8 : PySem.W.nsIn K mainGlobals "lock_fault" = some (some (.ref f8)))
    (l8 : K.lookup f8 = some ⟨oc8, od8, .func (PySem.W.fnOf "lock_fault" "lock_fault" (defArgs s_lock_fault) (defBody s_lock_fault) (defScope s_lock_fault) .none kV8 dc8 pm8 an8 cd8 ct8), sl8⟩)
    (c8 : PySem.W.codeIn K cd8 "lock_fault" = true)
    (k8 : PySem.W.keepIn K (.ref f8) = true)
    (a9 : PySem.W.nsIn K mainGlobals "_law_row" = some (some (.ref f9)))
    (l9 : K.lookup f9 = some ⟨oc9, od9, .func (PySem.W.fnOf "_law_row" "_law_row" (defArgs s_law_row) (defBody s_law_row) (defScope s_law_row) .none kV9 dc9 pm9 an9 cd9 ct9), sl9⟩)
    (c9 : PySem.W.codeIn K cd9 "_law_row" = true)
    (k9 : PySem.W.keepIn K (.ref f9) = true)
    (a10 : PySem.W.nsIn K mainGlobals "_law_draw" = some (some (.ref f10)))
    (l10 : K.lookup f10 = some ⟨oc10, od10, .func (PySem.W.fnOf "_law_draw" "_law_draw" (defArgs s_law_draw) (defBody s_law_draw) (defScope s_law_draw) .none kV10 dc10 pm10 an10 cd10 ct10), sl10⟩)
    (c10 : PySem.W.codeIn K cd10 "_law_draw" = true)
    (k10 : PySem.W.keepIn K (.ref f10) = true)
    (a11 : PySem.W.nsIn K mainGlobals "_law_word" = some (some (.ref f11)))
    (l11 : K.lookup f11 = some ⟨oc11, od11, .func (PySem.W.fnOf "_law_word" "_law_word" (defArgs s_law_word) (defBody s_law_word) (defScope s_law_word) .none kV11 dc11 pm11 an11 cd11 ct11), sl11⟩)
    (c11 : PySem.W.codeIn K cd11 "_law_word" = true)
    (k11 : PySem.W.keepIn K (.ref f11) = true)
    (a12 : PySem.W.nsIn K mainGlobals "_law_names" = some (some (.ref f12)))
    (l12 : K.lookup f12 = some ⟨oc12, od12, .func (PySem.W.fnOf "_law_names" "_law_names" (defArgs s_law_names) (defBody s_law_names) (defScope s_law_names) .none kV12 dc12 pm12 an12 cd12 ct12), sl12⟩)
    (c12 : PySem.W.codeIn K cd12 "_law_names" = true)
    (k12 : PySem.W.keepIn K (.ref f12) = true)
    (a13 : PySem.W.nsIn K mainGlobals "_law_worth" = some (some (.ref f13)))
    (l13 : K.lookup f13 = some ⟨oc13, od13, .func (PySem.W.fnOf "_law_worth" "_law_worth" (defArgs s_law_worth) (defBody s_law_worth) (defScope s_law_worth) .none kV13 dc13 pm13 an13 cd13 ct13), sl13⟩)
    (c13 : PySem.W.codeIn K cd13 "_law_worth" = true)
    (k13 : PySem.W.keepIn K (.ref f13) = true)
    (a14 : PySem.W.nsIn K mainGlobals "_law_guard" = some (some (.ref f14)))
    (l14 : K.lookup f14 = some ⟨oc14, od14, .func (PySem.W.fnOf "_law_guard" "_law_guard" (defArgs s_law_guard) (defBody s_law_guard) (defScope s_law_guard) .none kV14 dc14 pm14 an14 cd14 ct14), sl14⟩)
    (c14 : PySem.W.codeIn K cd14 "_law_guard" = true)
    (k14 : PySem.W.keepIn K (.ref f14) = true)
    (a15 : PySem.W.nsIn K mainGlobals "_law_place" = some (some (.ref f15)))
    (l15 : K.lookup f15 = some ⟨oc15, od15, .func (PySem.W.fnOf "_law_place" "_law_place" (defArgs s_law_place) (defBody s_law_place) (defScope s_law_place) .none kV15 dc15 pm15 an15 cd15 ct15), sl15⟩)
    (c15 : PySem.W.codeIn K cd15 "_law_place" = true)
    (k15 : PySem.W.keepIn K (.ref f15) = true)
    (a16 : PySem.W.nsIn K mainGlobals "_law_step" = some (some (.ref f16)))
    (l16 : K.lookup f16 = some ⟨oc16, od16, .func (PySem.W.fnOf "_law_step" "_law_step" (defArgs s_law_step) (defBody s_law_step) (defScope s_law_step) .none kV16 dc16 pm16 an16 cd16 ct16), sl16⟩)
    (c16 : PySem.W.codeIn K cd16 "_law_step" = true)
    (k16 : PySem.W.keepIn K (.ref f16) = true)
    (a17 : PySem.W.nsIn K mainGlobals "_law_steps" = some (some (.ref f17)))
    (l17 : K.lookup f17 = some ⟨oc17, od17, .func (PySem.W.fnOf "_law_steps" "_law_steps" (defArgs s_law_steps) (defBody s_law_steps) (defScope s_law_steps) .none kV17 dc17 pm17 an17 cd17 ct17), sl17⟩)
    (c17 : PySem.W.codeIn K cd17 "_law_steps" = true)
    (k17 : PySem.W.keepIn K (.ref f17) = true)
    (a18 : PySem.W.nsIn K mainGlobals "_law_odd_text" = some (some (.ref f18)))
    (l18 : K.lookup f18 = some ⟨oc18, od18, .func (PySem.W.fnOf "_law_odd_text" "_law_odd_text" (defArgs s_law_odd_text) (defBody s_law_odd_text) (defScope s_law_odd_text) .none kV18 dc18 pm18 an18 cd18 ct18), sl18⟩)
    (c18 : PySem.W.codeIn K cd18 "_law_odd_text" = true)
    (k18 : PySem.W.keepIn K (.ref f18) = true)
    (a19 : PySem.W.nsIn K mainGlobals "_law_odd_number" = some (some (.ref f19)))
    (l19 : K.lookup f19 = some ⟨oc19, od19, .func (PySem.W.fnOf "_law_odd_number" "_law_odd_number" (defArgs s_law_odd_number) (defBody s_law_odd_number) (defScope s_law_odd_number) .none kV19 dc19 pm19 an19 cd19 ct19), sl19⟩)
    (c19 : PySem.W.codeIn K cd19 "_law_odd_number" = true)
    (k19 : PySem.W.keepIn K (.ref f19) = true)
    (a20 : PySem.W.nsIn K mainGlobals "_law_odd_part" = some (some (.ref f20)))
    (l20 : K.lookup f20 = some ⟨oc20, od20, .func (PySem.W.fnOf "_law_odd_part" "_law_odd_part" (defArgs s_law_odd_part) (defBody s_law_odd_part) (defScope s_law_odd_part) .none kV20 dc20 pm20 an20 cd20 ct20), sl20⟩)
    (c20 : PySem.W.codeIn K cd20 "_law_odd_part" = true)
    (k20 : PySem.W.keepIn K (.ref f20) = true)
    (a21 : PySem.W.nsIn K mainGlobals "_law_spoilt" = some (some (.ref f21)))
    (l21 : K.lookup f21 = some ⟨oc21, od21, .func (PySem.W.fnOf "_law_spoilt" "_law_spoilt" (defArgs s_law_spoilt) (defBody s_law_spoilt) (defScope s_law_spoilt) .none kV21 dc21 pm21 an21 cd21 ct21), sl21⟩)
    (c21 : PySem.W.codeIn K cd21 "_law_spoilt" = true)
    (k21 : PySem.W.keepIn K (.ref f21) = true)
    (a22 : PySem.W.nsIn K mainGlobals "_law_spoil" = some (some (.ref f22)))
    (l22 : K.lookup f22 = some ⟨oc22, od22, .func (PySem.W.fnOf "_law_spoil" "_law_spoil" (defArgs s_law_spoil) (defBody s_law_spoil) (defScope s_law_spoil) .none kV22 dc22 pm22 an22 cd22 ct22), sl22⟩)
    (c22 : PySem.W.codeIn K cd22 "_law_spoil" = true)
    (k22 : PySem.W.keepIn K (.ref f22) = true)
    (a23 : PySem.W.nsIn K mainGlobals "_law_lock_fault" = some (some (.ref f23)))
    (l23 : K.lookup f23 = some ⟨oc23, od23, .func (PySem.W.fnOf "_law_lock_fault" "_law_lock_fault" (defArgs s_law_lock_fault) (defBody s_law_lock_fault) (defScope s_law_lock_fault) .none kV23 dc23 pm23 an23 cd23 ct23), sl23⟩)
    (c23 : PySem.W.codeIn K cd23 "_law_lock_fault" = true)
    (k23 : PySem.W.keepIn K (.ref f23) = true)
    (a24 : PySem.W.nsIn K mainGlobals "_law_good" = some (some (.ref f24)))
    (l24 : K.lookup f24 = some ⟨oc24, od24, .func (PySem.W.fnOf "_law_good" "_law_good" (defArgs s_law_good) (defBody s_law_good) (defScope s_law_good) .none kV24 dc24 pm24 an24 cd24 ct24), sl24⟩)
    (c24 : PySem.W.codeIn K cd24 "_law_good" = true)
    (k24 : PySem.W.keepIn K (.ref f24) = true)
    (a25 : PySem.W.nsIn K mainGlobals "_law_only" = some (some (.ref f25)))
    (l25 : K.lookup f25 = some ⟨oc25, od25, .func (PySem.W.fnOf "_law_only" "_law_only" (defArgs s_law_only) (defBody s_law_only) (defScope s_law_only) .none kV25 dc25 pm25 an25 cd25 ct25), sl25⟩)
    (c25 : PySem.W.codeIn K cd25 "_law_only" = true)
    (k25 : PySem.W.keepIn K (.ref f25) = true)
    (a26 : PySem.W.nsIn K mainGlobals "_law_told" = some (some (.ref f26)))
    (l26 : K.lookup f26 = some ⟨oc26, od26, .func (PySem.W.fnOf "_law_told" "_law_told" (defArgs s_law_told) (defBody s_law_told) (defScope s_law_told) .none kV26 dc26 pm26 an26 cd26 ct26), sl26⟩)
    (c26 : PySem.W.codeIn K cd26 "_law_told" = true)
    (k26 : PySem.W.keepIn K (.ref f26) = true)
    (a27 : PySem.W.nsIn K mainGlobals "_law_size" = some (some (.ref f27)))
    (l27 : K.lookup f27 = some ⟨oc27, od27, .func (PySem.W.fnOf "_law_size" "_law_size" (defArgs s_law_size) (defBody s_law_size) (defScope s_law_size) .none kV27 dc27 pm27 an27 cd27 ct27), sl27⟩)
    (c27 : PySem.W.codeIn K cd27 "_law_size" = true)
    (k27 : PySem.W.keepIn K (.ref f27) = true)
    (a28 : PySem.W.nsIn K mainGlobals "law" = some (some (.ref f28)))
    (l28 : K.lookup f28 = some ⟨oc28, od28, .func (PySem.W.fnOf "law" "law" (defArgs s_law) (defBody s_law) (defScope s_law) .none kV28 dc28 pm28 an28 cd28 ct28), sl28⟩)
    (c28 : PySem.W.codeIn K cd28 "law" = true)
    (k28 : PySem.W.keepIn K (.ref f28) = true)
    (z_isinstance : PySem.W.nsIn K mainGlobals "isinstance" = some none)
    (z_str : PySem.W.nsIn K mainGlobals "str" = some none)
    (z_int : PySem.W.nsIn K mainGlobals "int" = some none)
    (z_bool : PySem.W.nsIn K mainGlobals "bool" = some none)
    (z_tuple : PySem.W.nsIn K mainGlobals "tuple" = some none)
    (z_len : PySem.W.nsIn K mainGlobals "len" = some none)
    (z_all : PySem.W.nsIn K mainGlobals "all" = some none)
    (z_zip : PySem.W.nsIn K mainGlobals "zip" = some none)
    (z_enumerate : PySem.W.nsIn K mainGlobals "enumerate" = some none)
    (z_list : PySem.W.nsIn K mainGlobals "list" = some none)
    (z_abs : PySem.W.nsIn K mainGlobals "abs" = some none)
    (z_range : PySem.W.nsIn K mainGlobals "range" = some none)
    (z_repr : PySem.W.nsIn K mainGlobals "repr" = some none)
    (z_super : PySem.W.nsIn K mainGlobals "super" = some none)
    (z_max : PySem.W.nsIn K mainGlobals "max" = some none)
    (z_sorted : PySem.W.nsIn K mainGlobals "sorted" = some none)
    (z_ValueError : PySem.W.nsIn K mainGlobals "ValueError" = some none)
    (gL : PySem.W.nsIn K mainGlobals "LETTERS" = some (some (.str sL tL)))
    (eL : sL = lets)
    (gX1 : PySem.W.nsIn K mainGlobals "MOST_STEPS" = some (some (.int 80 tX1)))
    (gX2 : PySem.W.nsIn K mainGlobals "MOST_TURNS" = some (some (.int 4 tX2)))
    (aN : PySem.W.nsIn K mainGlobals "BadName" = some (some (.ref BN)))
    (xN : K.lookup BN = some (excClassObj nmN qnN BN NN bsN bmN true snN sbN abN coN ddN m0N m1N m2N m3N m5N "ValueError.__new__"))
    (rN : PySem.HandSPX.refsVE bmN = true)
    (b1N : PySem.W.findIn K (.ref BN) "__setattr__" = some (some (.builtin "object.__setattr__")))
    (q1N : PySem.W.subIn K (.ref BN) (.type "BaseException") = some true)
    (q2N : PySem.W.isClsIn K BN = true)
    (q3N : PySem.W.typeIn K (.ref BN) = some (.type "type"))
    (b4N : PySem.W.keepIn K (.ref BN) = true)
    (b5N : PySem.W.findIn K (.ref BN) "__init__" = some (some (.ref feN)))
    (b6N : PySem.W.typeIn K (.ref feN) = some (.type "function"))
    (lN : K.lookup feN = some ⟨ocN, odN, .func (PySem.W.fnX "__init__" "BadName.__init__" (defArgs s_BadName_init) (defBody s_BadName_init) (defScope s_BadName_init) [("__class__", ccN)] .none kVN dcN pmN anN (.ref cdaN) ctN), slN⟩)
    (cN : PySem.W.codeIn K (.ref cdaN) "BadName.__init__" = true)
    (kN : PySem.W.keepIn K (.ref feN) = true)
    (eN : K.lookup ccN = some ⟨clN, cdN, .cell (some (.ref BN)), csN⟩)
    (b7N : PySem.W.ks_superIn K BN BN "__init__" = some (some (.builtin "ValueError.__init__")))
    (b8N : PySem.W.subIn K (.ref BN) (.type "ValueError") = some true)
    (b9 : PySem.W.nsIn K cStatics "thirdparty.any" = some none)
    (b14 : (l.prog.main.scope.names.lookup ("super" : Str)).isSome = false)
    (b31 : PySem.W.kitMeta "ValueError" = true)
    (p12 : PySem.W.specialIn K (.builtin "object.__class__") "__get__" = some (some (.builtin "getset_descriptor.__get__")))
    (p13 : PySem.W.takesIn K (.builtin "object.__class__") = some true)
    (b10N : PySem.W.mroIn K BN (.ref BN) = some true)
    (b11N : K.lookup cdaN = some ⟨cxN, ceN, .fields vsN, czN⟩)
    (b12N : vsN[2]? = some (.str fileN tfN))
    (b13N : ((l.prog.main.file : Str) == fileN) = true)
    (b15N : PySem.W.findIn K (.ref BN) "name" = some none)
    (b17N : PySem.W.findIn K (.ref BN) "__getattribute__" = some (some (.builtin "BaseException.__getattribute__")))
    (b18N : PySem.W.findIn K (.ref BN) "__getattr__" = some none)
    (b19N : PySem.W.hasDictIn K BN = true)
    (b25N : PySem.W.findIn K (.ref BN) "__class__" = some (some (.builtin "object.__class__")))
    (b26N : PySem.W.mroIn K BN (.type "object") = some true)
    (aS : PySem.W.nsIn K mainGlobals "BadStep" = some (some (.ref BS)))
    (xS : K.lookup BS = some (excClassObj nmS qnS BS NS bsS bmS true snS sbS abS coS ddS m0S m1S m2S m3S m5S "ValueError.__new__"))
    (rS : PySem.HandSPX.refsVE bmS = true)
    (b1S : PySem.W.findIn K (.ref BS) "__setattr__" = some (some (.builtin "object.__setattr__")))
    (q1S : PySem.W.subIn K (.ref BS) (.type "BaseException") = some true)
    (q2S : PySem.W.isClsIn K BS = true)
    (q3S : PySem.W.typeIn K (.ref BS) = some (.type "type"))
    (b4S : PySem.W.keepIn K (.ref BS) = true)
    (b5S : PySem.W.findIn K (.ref BS) "__init__" = some (some (.ref feS)))
    (b6S : PySem.W.typeIn K (.ref feS) = some (.type "function"))
    (lS : K.lookup feS = some ⟨ocS, odS, .func (PySem.W.fnX "__init__" "BadStep.__init__" (defArgs s_BadStep_init) (defBody s_BadStep_init) (defScope s_BadStep_init) [("__class__", ccS)] .none kVS dcS pmS anS (.ref cdaS) ctS), slS⟩)
    (cS : PySem.W.codeIn K (.ref cdaS) "BadStep.__init__" = true)
    (kS : PySem.W.keepIn K (.ref feS) = true)
    (eS : K.lookup ccS = some ⟨clS, cdS, .cell (some (.ref BS)), csS⟩)
    (b7S : PySem.W.ks_superIn K BS BS "__init__" = some (some (.builtin "ValueError.__init__")))
    (b8S : PySem.W.subIn K (.ref BS) (.type "ValueError") = some true)
    (b10S : PySem.W.mroIn K BS (.ref BS) = some true)
    (b11S : K.lookup cdaS = some ⟨cxS, ceS, .fields vsS, czS⟩)
    (b12S : vsS[2]? = some (.str fileS tfS))
    (b13S : ((l.prog.main.file : Str) == fileS) = true)
    (b15S : PySem.W.findIn K (.ref BS) "name" = some none)
    (b17S : PySem.W.findIn K (.ref BS) "__getattribute__" = some (some (.builtin "BaseException.__getattribute__")))
    (b18S : PySem.W.findIn K (.ref BS) "__getattr__" = some none)
    (b19S : PySem.W.hasDictIn K BS = true)
    (b25S : PySem.W.findIn K (.ref BS) "__class__" = some (some (.builtin "object.__class__")))
    (b26S : PySem.W.mroIn K BS (.type "object") = some true)
    (aM : PySem.W.nsIn K mainGlobals "BadNumber" = some (some (.ref BM)))
    (xM : K.lookup BM = some (excClassObj nmM qnM BM NM bsM bmM true snM sbM abM coM ddM m0M m1M m2M m3M m5M "ValueError.__new__"))
    (rM : PySem.HandSPX.refsVE bmM = true)
    (b1M : PySem.W.findIn K (.ref BM) "__setattr__" = some (some (.builtin "object.__setattr__")))
    (q1M : PySem.W.subIn K (.ref BM) (.type "BaseException") = some true)
    (q2M : PySem.W.isClsIn K BM = true)
    (q3M : PySem.W.typeIn K (.ref BM) = some (.type "type"))
    (b4M : PySem.W.keepIn K (.ref BM) = true)
    (b5M : PySem.W.findIn K (.ref BM) "__init__" = some (some (.ref feM)))
    (b6M : PySem.W.typeIn K (.ref feM) = some (.type "function"))
    (lM : K.lookup feM = some ⟨ocM, odM, .func (PySem.W.fnX "__init__" "BadNumber.__init__" (defArgs s_BadNumber_init) (defBody s_BadNumber_init) (defScope s_BadNumber_init) [("__class__", ccM)] .none kVM dcM pmM anM (.ref cdaM) ctM), slM⟩)
    (cM : PySem.W.codeIn K (.ref cdaM) "BadNumber.__init__" = true)
    (kM : PySem.W.keepIn K (.ref feM) = true)
    (eM : K.lookup ccM = some ⟨clM, cdM, .cell (some (.ref BM)), csM⟩)
    (b7M : PySem.W.ks_superIn K BM BM "__init__" = some (some (.builtin "ValueError.__init__")))
    (b8M : PySem.W.subIn K (.ref BM) (.type "ValueError") = some true)
    (b10M : PySem.W.mroIn K BM (.ref BM) = some true)
    (b11M : K.lookup cdaM = some ⟨cxM, ceM, .fields vsM, czM⟩)
    (b12M : vsM[2]? = some (.str fileM tfM))
    (b13M : ((l.prog.main.file : Str) == fileM) = true)
    (b15M : PySem.W.findIn K (.ref BM) "number" = some none)
    (b17M : PySem.W.findIn K (.ref BM) "__getattribute__" = some (some (.builtin "BaseException.__getattribute__")))
    (b18M : PySem.W.findIn K (.ref BM) "__getattr__" = some none)
    (b19M : PySem.W.hasDictIn K BM = true)
    (b25M : PySem.W.findIn K (.ref BM) "__class__" = some (some (.builtin "object.__class__")))
    (b26M : PySem.W.mroIn K BM (.type "object") = some true)
    (aC : PySem.W.nsIn K mainGlobals "CoreError" = some (some (.ref CE)))
    (q1C : PySem.W.subIn K (.ref CE) (.type "BaseException") = some true)
    (q2C : PySem.W.isClsIn K CE = true)
    (q3C : PySem.W.typeIn K (.ref CE) = some (.type "type"))
    (b16S : PySem.W.findIn K (.ref BS) "at" = some none)
    (sNN : PySem.W.subIn K (.ref BN) (.ref BN) = some true)
    (sNS : PySem.W.subIn K (.ref BN) (.ref BS) = some false)
    (sNM : PySem.W.subIn K (.ref BN) (.ref BM) = some false)
    (sNC : PySem.W.subIn K (.ref BN) (.ref CE) = some true)
    (eNS : ((Value.ref BN) == (Value.ref BS)) = false)
    (eNM : ((Value.ref BN) == (Value.ref BM)) = false)
    (eNC : ((Value.ref BN) == (Value.ref CE)) = false)
    (sSN : PySem.W.subIn K (.ref BS) (.ref BN) = some false)
    (sSS : PySem.W.subIn K (.ref BS) (.ref BS) = some true)
    (sSM : PySem.W.subIn K (.ref BS) (.ref BM) = some false)
    (sSC : PySem.W.subIn K (.ref BS) (.ref CE) = some true)
    (eSN : ((Value.ref BS) == (Value.ref BN)) = false)
    (eSM : ((Value.ref BS) == (Value.ref BM)) = false)
    (eSC : ((Value.ref BS) == (Value.ref CE)) = false)
    (sMN : PySem.W.subIn K (.ref BM) (.ref BN) = some false)
    (sMS : PySem.W.subIn K (.ref BM) (.ref BS) = some false)
    (sMM : PySem.W.subIn K (.ref BM) (.ref BM) = some true)
    (sMC : PySem.W.subIn K (.ref BM) (.ref CE) = some true)
    (eMN : ((Value.ref BM) == (Value.ref BN)) = false)
    (eMS : ((Value.ref BM) == (Value.ref BS)) = false)
    (eMC : ((Value.ref BM) == (Value.ref CE)) = false)
    (aT : PySem.W.nsIn K mainGlobals "Operation" = some (some (.ref OP)))
    (p1T : PySem.W.plainGet K OP Str.empty = true)
    (p2T : PySem.W.hasDictIn K OP = true)
    (p3T : PySem.W.plainOver K OP = true)
    (p4T : PySem.W.findIn K (.ref OP) "__setattr__" = some (some (.builtin "object.__setattr__")))
    (n0T : PySem.W.findIn K (.ref OP) "name" = some none)
    (n1T : PySem.W.findIn K (.ref OP) "turns" = some none)
    (n2T : PySem.W.findIn K (.ref OP) "otherwise" = some none)
    (n3T : PySem.W.findIn K (.ref OP) "_steps" = some none)
    (p9T : PySem.W.keepIn K (.ref OP) = true)
    (p5T : PySem.W.makesIn K OP = true)
    (mTI : PySem.W.findIn K (.ref OP) "__init__" = some (some (.ref fTI)))
    (hTI : PySem.W.isFn K (.ref fTI) = true)
    (lTI : K.lookup fTI = some ⟨ocTI, odTI, .func (PySem.W.fnOf "__init__" "Operation.__init__" (defArgs s_Operation_init) (defBody s_Operation_init) (defScope s_Operation_init) .none (.ref DK) dcTI pmTI anTI cdTI ctTI), slTI⟩)
    (cTI : PySem.W.codeIn K cdTI "Operation.__init__" = true)
    (kTI : PySem.W.keepIn K (.ref fTI) = true)
    (mTS : PySem.W.findIn K (.ref OP) "steps" = some (some (.ref fTS)))
    (hTS : PySem.W.isFn K (.ref fTS) = true)
    (lTS : K.lookup fTS = some ⟨ocTS, odTS, .func (PySem.W.fnOf "steps" "Operation.steps" (defArgs s_Operation_steps) (defBody s_Operation_steps) (defScope s_Operation_steps) .none kVTS dcTS pmTS anTS cdTS ctTS), slTS⟩)
    (cTS : PySem.W.codeIn K cdTS "Operation.steps" = true)
    (kTS : PySem.W.keepIn K (.ref fTS) = true)
    (d1 : PySem.W.nsIn K DK "turns" = some (some (.int 1 tk1)))
    (d2 : PySem.W.nsIn K DK "otherwise" = some (some (.int 0 tk2)))
    (cF : PySem.W.nsIn K mainGlobals "FORMS" = some (some (.ref FA)))
    (lF : K.lookup FA = some ⟨.type "dict", none, .dict esF nF, #[]⟩)
    (kF : PySem.W.KeysLit w.params esF.toList)
    (wF : (FA == sysModules) = false)
    (w0 : PySem.W.nsIn K FA "read" = some (some (.ref R0)))
    (v0 : K.lookup R0 = some ⟨.type "tuple", dt0, .seq its0 nt0, sq0⟩)
    (u0 : its0.size ≤ sizeLine ∧ Vals ((["local", "place", "guard"] : List Str).map V.str) its0.toList)
    (w1 : PySem.W.nsIn K FA "acquire" = some (some (.ref R1)))
    (v1 : K.lookup R1 = some ⟨.type "tuple", dt1, .seq its1 nt1, sq1⟩)
    (u1 : its1.size ≤ sizeLine ∧ Vals ((["local", "place", "guard"] : List Str).map V.str) its1.toList)
    (w2 : PySem.W.nsIn K FA "write" = some (some (.ref R2)))
    (v2 : K.lookup R2 = some ⟨.type "tuple", dt2, .seq its2 nt2, sq2⟩)
    (u2 : its2.size ≤ sizeLine ∧ Vals ((["place", "worth", "guard"] : List Str).map V.str) its2.toList)
    (w3 : PySem.W.nsIn K FA "release" = some (some (.ref R3)))
    (v3 : K.lookup R3 = some ⟨.type "tuple", dt3, .seq its3 nt3, sq3⟩)
    (u3 : its3.size ≤ sizeLine ∧ Vals ((["place", "worth", "guard"] : List Str).map V.str) its3.toList)
    (w4 : PySem.W.nsIn K FA "swap" = some (some (.ref R4)))
    (v4 : K.lookup R4 = some ⟨.type "tuple", dt4, .seq its4 nt4, sq4⟩)
    (u4 : its4.size ≤ sizeLine ∧ Vals ((["local", "place", "worth", "guard"] : List Str).map V.str) its4.toList)
    (w5 : PySem.W.nsIn K FA "cas" = some (some (.ref R5)))
    (v5 : K.lookup R5 = some ⟨.type "tuple", dt5, .seq its5 nt5, sq5⟩)
    (u5 : its5.size ≤ sizeLine ∧ Vals ((["local", "place", "worth", "worth", "guard"] : List Str).map V.str) its5.toList)
    (w6 : PySem.W.nsIn K FA "fence" = some (some (.ref R6)))
    (v6 : K.lookup R6 = some ⟨.type "tuple", dt6, .seq its6 nt6, sq6⟩)
    (u6 : its6.size ≤ sizeLine ∧ Vals ((["name", "guard"] : List Str).map V.str) its6.toList)
    (w7 : PySem.W.nsIn K FA "lock" = some (some (.ref R7)))
    (v7 : K.lookup R7 = some ⟨.type "tuple", dt7, .seq its7 nt7, sq7⟩)
    (u7 : its7.size ≤ sizeLine ∧ Vals ((["name"] : List Str).map V.str) its7.toList)
    (w8 : PySem.W.nsIn K FA "free" = some (some (.ref R8)))
    (v8 : K.lookup R8 = some ⟨.type "tuple", dt8, .seq its8 nt8, sq8⟩)
    (u8 : its8.size ≤ sizeLine ∧ Vals ((["name"] : List Str).map V.str) its8.toList)
    (w9 : PySem.W.nsIn K FA "take" = some (some (.ref R9)))
    (v9 : K.lookup R9 = some ⟨.type "tuple", dt9, .seq its9 nt9, sq9⟩)
    (u9 : its9.size ≤ sizeLine ∧ Vals ((["local", "guard"] : List Str).map V.str) its9.toList)
    (w10 : PySem.W.nsIn K FA "drop" = some (some (.ref R10)))
    (v10 : K.lookup R10 = some ⟨.type "tuple", dt10, .seq its10 nt10, sq10⟩)
    (u10 : its10.size ≤ sizeLine ∧ Vals ((["local", "guard"] : List Str).map V.str) its10.toList)
    (w11 : PySem.W.nsIn K FA "give" = some (some (.ref R11)))
    (v11 : K.lookup R11 = some ⟨.type "tuple", dt11, .seq its11 nt11, sq11⟩)
    (u11 : its11.size ≤ sizeLine ∧ Vals ((["worth", "guard"] : List Str).map V.str) its11.toList)
    (ow0 : PySem.W.nsIn K FA "" = some none)
    (ow1 : PySem.W.nsIn K FA "Read" = some none)
    (ow2 : PySem.W.nsIn K FA "load" = some none)
    (ow3 : PySem.W.nsIn K FA "unlock" = some none)
    (ow4 : PySem.W.nsIn K FA "both" = some none)
    (ow5 : PySem.W.nsIn K FA "return" = some none)
    (ow6 : PySem.W.nsIn K FA "again" = some none)
    (ow7 : PySem.W.nsIn K FA "reads" = some none)
    (ow8 : PySem.W.nsIn K FA "lock " = some none)
    (cS_ : PySem.W.nsIn K mainGlobals "SIGNS" = some (some (.ref SG)))
    (v12 : K.lookup SG = some ⟨.type "tuple", dt12, .seq its12 nt12, sq12⟩)
    (u12 : its12.size ≤ sizeLine ∧ Vals ((["=", "!", "<"] : List Str).map V.str) its12.toList) :
    ∃ fd : FuncData, (∀ (s : Shared) (v : Value), BindsTo s fd ⟨[v], []⟩ [("_law_script", v)]) ∧ ∀ base : Heap, K.In base → base.Ns mainGlobals mg → FnG l.prog w K mg base (L2.CX l.prog w) 11 fa fd ["_law_script"] (spLaw K) := by
  cases hfa.symm.trans (PySem.W.mg_of X G a28)
  subst eL
  refine ⟨PySem.W.fnOf "law" "law" (defArgs s_law) (defBody s_law) (defScope s_law) .none kV28 dc28 pm28 an28 cd28 ct28, fun s v => .of_eq rfl, fun base _ _ => ?_⟩
  have T0 : Bt0 mg := ⟨(PySem.W.mg_none_of X G z_len), (PySem.W.mg_none_of X G z_int), (PySem.W.mg_none_of X G z_abs), (PySem.W.mg_none_of X G z_range)⟩
  have T2 : Bt2 mg := ⟨(PySem.W.mg_none_of X G z_enumerate), (PySem.W.mg_none_of X G z_len), (PySem.W.mg_none_of X G z_list)⟩
  have T3 : Bt3 mg tX1 tX2 := ⟨T2, (PySem.W.mg_of X G gX1), (PySem.W.mg_of X G gX2)⟩
  have T1 : Bt K w mg FA SG esF nF tL := ⟨(PySem.W.mg_none_of X G z_isinstance), (PySem.W.mg_none_of X G z_str), (PySem.W.mg_none_of X G z_int), (PySem.W.mg_none_of X G z_bool), (PySem.W.mg_none_of X G z_tuple), (PySem.W.mg_none_of X G z_len), (PySem.W.mg_none_of X G z_all), (PySem.W.mg_none_of X G z_zip), (PySem.W.mg_of X G gL), (PySem.W.mg_of X G cF), (PySem.W.mg_of X G cS_), ⟨lF, kF, wF⟩, (fun p hp => by
    unfold forms at hp
    simp only [List.mem_cons, List.not_mem_nil, or_false] at hp
    rcases hp with rfl | rfl | rfl | rfl | rfl | rfl | rfl | rfl | rfl | rfl | rfl | rfl
    · exact ⟨R0, w0, _, its0, nt0, v0, rfl, rfl, u0.1, u0.2⟩
    · exact ⟨R1, w1, _, its1, nt1, v1, rfl, rfl, u1.1, u1.2⟩
    · exact ⟨R2, w2, _, its2, nt2, v2, rfl, rfl, u2.1, u2.2⟩
    · exact ⟨R3, w3, _, its3, nt3, v3, rfl, rfl, u3.1, u3.2⟩
    · exact ⟨R4, w4, _, its4, nt4, v4, rfl, rfl, u4.1, u4.2⟩
    · exact ⟨R5, w5, _, its5, nt5, v5, rfl, rfl, u5.1, u5.2⟩
    · exact ⟨R6, w6, _, its6, nt6, v6, rfl, rfl, u6.1, u6.2⟩
    · exact ⟨R7, w7, _, its7, nt7, v7, rfl, rfl, u7.1, u7.2⟩
    · exact ⟨R8, w8, _, its8, nt8, v8, rfl, rfl, u8.1, u8.2⟩
    · exact ⟨R9, w9, _, its9, nt9, v9, rfl, rfl, u9.1, u9.2⟩
    · exact ⟨R10, w10, _, its10, nt10, v10, rfl, rfl, u10.1, u10.2⟩
    · exact ⟨R11, w11, _, its11, nt11, v11, rfl, rfl, u11.1, u11.2⟩), (fun x hx => by
    unfold oddWs at hx
    simp only [List.mem_cons, List.not_mem_nil, or_false] at hx
    rcases hx with rfl | rfl | rfl | rfl | rfl | rfl | rfl | rfl | rfl
    · exact ow0
    · exact ow1
    · exact ow2
    · exact ow3
    · exact ow4
    · exact ow5
    · exact ow6
    · exact ow7
    · exact ow8), ⟨_, its12, nt12, v12, rfl, rfl, u12.1, u12.2⟩⟩
  have TLn : BtLn mg := ⟨(PySem.W.mg_none_of X G z_len)⟩
  have TRg : BtRg mg := ⟨(PySem.W.mg_none_of X G z_len), (PySem.W.mg_none_of X G z_range)⟩
  have TLL : BtLL mg := ⟨(PySem.W.mg_none_of X G z_len), (PySem.W.mg_none_of X G z_list)⟩
  have TSp : BtSp mg := ⟨(PySem.W.mg_none_of X G z_len), (PySem.W.mg_none_of X G z_range), (PySem.W.mg_none_of X G z_max), (PySem.W.mg_none_of X G z_sorted)⟩
  have TGd : BtGd mg := ⟨(PySem.W.mg_none_of X G z_list), (PySem.W.mg_none_of X G z_repr)⟩
  have TLw : BtLw mg := ⟨(PySem.W.mg_none_of X G z_len), (PySem.W.mg_none_of X G z_list), (PySem.W.mg_none_of X G z_repr)⟩
  have OXN : OexC K BN := ⟨⟨nmN, qnN, NN, bsN, bmN, snN, sbN, abN, coN, ddN, m0N, m1N, m2N, m3N, m5N, xN, rN⟩, b1N, q1N, q3N, b4N⟩
  have ECN : ErrC K BN := ⟨OXN, b7N, b8N, b9, b10N⟩
  have CFN : CodeF K l.prog cdaN := ⟨⟨cxN, ceN, vsN, czN, fileN, tfN, b11N, b12N, b13N⟩, b14⟩
  have FXN : FunX K "__init__" "BadName.__init__" s_BadName_init feN _ ccN cdaN BN := ⟨⟨ocN, odN, kVN, dcN, pmN, anN, ctN, slN, rfl, lN, cN⟩, ⟨clN, cdN, csN, eN⟩, kN⟩
  have KTN : KitC K BN := ⟨q2N, b17N, b18N, q1N, b25N, p12, p13, b26N⟩
  have GXN := ok_BadName_init (P := l.prog) (w := w) (base := base) (mg := mg) (CX := L2.CX l.prog w) (Pf := (fun _ => True)) FXN ECN CFN (PySem.W.mg_none_of X G z_super) b15N
  have ERN : Er1 l.prog w K mg base "BadName" "name" BN feN _ ["self", "name"] (fun _ => True) := ⟨(PySem.W.mg_of X G aN), OXN, b5N, b6N, .all fun us hl => match us, hl with | [_, _], _ => rfl, GXN⟩
  have OXM : OexC K BM := ⟨⟨nmM, qnM, NM, bsM, bmM, snM, sbM, abM, coM, ddM, m0M, m1M, m2M, m3M, m5M, xM, rM⟩, b1M, q1M, q3M, b4M⟩
  have ECM : ErrC K BM := ⟨OXM, b7M, b8M, b9, b10M⟩
  have CFM : CodeF K l.prog cdaM := ⟨⟨cxM, ceM, vsM, czM, fileM, tfM, b11M, b12M, b13M⟩, b14⟩
  have FXM : FunX K "__init__" "BadNumber.__init__" s_BadNumber_init feM _ ccM cdaM BM := ⟨⟨ocM, odM, kVM, dcM, pmM, anM, ctM, slM, rfl, lM, cM⟩, ⟨clM, cdM, csM, eM⟩, kM⟩
  have KTM : KitC K BM := ⟨q2M, b17M, b18M, q1M, b25M, p12, p13, b26M⟩
  have GXM := ok_BadNumber_init (P := l.prog) (w := w) (base := base) (mg := mg) (CX := L2.CX l.prog w) (Pf := (fun _ => True)) FXM ECM CFM (PySem.W.mg_none_of X G z_super) b15M
  have ERM : Er1 l.prog w K mg base "BadNumber" "number" BM feM _ ["self", "number"] (fun _ => True) := ⟨(PySem.W.mg_of X G aM), OXM, b5M, b6M, .all fun us hl => match us, hl with | [_, _], _ => rfl, GXM⟩
  have OXS : OexC K BS := ⟨⟨nmS, qnS, NS, bsS, bmS, snS, sbS, abS, coS, ddS, m0S, m1S, m2S, m3S, m5S, xS, rS⟩, b1S, q1S, q3S, b4S⟩
  have ECS : ErrC K BS := ⟨OXS, b7S, b8S, b9, b10S⟩
  have CFS : CodeF K l.prog cdaS := ⟨⟨cxS, ceS, vsS, czS, fileS, tfS, b11S, b12S, b13S⟩, b14⟩
  have FXS : FunX K "__init__" "BadStep.__init__" s_BadStep_init feS _ ccS cdaS BS := ⟨⟨ocS, odS, kVS, dcS, pmS, anS, ctS, slS, rfl, lS, cS⟩, ⟨clS, cdS, csS, eS⟩, kS⟩
  have KTS : KitC K BS := ⟨q2S, b17S, b18S, q1S, b25S, p12, p13, b26S⟩
  have GXS := ok_BadStep_init (P := l.prog) (w := w) (base := base) (mg := mg) (CX := L2.CX l.prog w) FXS ECS CFS (PySem.W.mg_none_of X G z_super) b15S b16S
  have SB : BsC l.prog w K mg base BS feS _ := ⟨(PySem.W.mg_of X G aS), OXS, b5S, b6S, .all fun us hl => match us, hl with | [_, _, _], _ => rfl, GXS⟩
  have TOn : BtOn K mg BN BS BM CE := ⟨(PySem.W.mg_none_of X G z_isinstance), (PySem.W.mg_none_of X G z_range), (PySem.W.mg_none_of X G z_ValueError), (PySem.W.mg_of X G aN), (PySem.W.mg_of X G aS), (PySem.W.mg_of X G aM), (PySem.W.mg_of X G aC), ⟨⟨b17N, b18N, q1N, b19N⟩, KTN, kit_self, kit_sub eNS q2S q3S sNS, kit_sub eNM q2M q3M sNM, kit_sub eNC q2C q3C sNC, kit_ty b31 b8N⟩, ⟨⟨b17S, b18S, q1S, b19S⟩, KTS, kit_sub eSN q2N q3N sSN, kit_self, kit_sub eSM q2M q3M sSM, kit_sub eSC q2C q3C sSC, kit_ty b31 b8S⟩, ⟨⟨b17M, b18M, q1M, b19M⟩, KTM, kit_sub eMN q2N q3N sMN, kit_sub eMS q2S q3S sMS, kit_self, kit_sub eMC q2C q3C sMC, kit_ty b31 b8M⟩⟩
  have TTo : BtTo K mg BN BS BM CE := ⟨TOn, exm_sub q1N q2N q3N sNN, exm_sub q1N q2N q3N sSN, exm_sub q1S q2S q3S sSS, exm_sub q1N q2N q3N sMN, exm_sub q1S q2S q3S sMS, exm_sub q1M q2M q3M sMM, b15N, b15S, b16S, b15M⟩
  have O : OpC K mg OP := ⟨(PySem.W.mg_of X G aT), ⟨p1T, p2T, p3T, p4T⟩, n0T, n1T, n2T, n3T⟩
  have F0 := fun_mk (st := s_is_name) l0 c0 k0
  have D0 : Df K mg "is_name" s_is_name ["value"] f0 _ := ⟨F0, PySem.W.mg_of X G a0, F0.binds (ps := ["value"]) fun _ _ _ _ _ _ us hl => match us, hl with | [_], _ => rfl⟩
  have F1 := fun_mk (st := s_is_below) l1 c1 k1
  have D1 : Df K mg "is_below" s_is_below ["value", "bound"] f1 _ := ⟨F1, PySem.W.mg_of X G a1, F1.binds (ps := ["value", "bound"]) fun _ _ _ _ _ _ us hl => match us, hl with | [_, _], _ => rfl⟩
  have F2 := fun_mk (st := s_is_number) l2 c2 k2
  have D2 : Df K mg "is_number" s_is_number ["value"] f2 _ := ⟨F2, PySem.W.mg_of X G a2, F2.binds (ps := ["value"]) fun _ _ _ _ _ _ us hl => match us, hl with | [_], _ => rfl⟩
  have F3 := fun_mk (st := s_is_place) l3 c3 k3
  have D3 : Df K mg "is_place" s_is_place ["part"] f3 _ := ⟨F3, PySem.W.mg_of X G a3, F3.binds (ps := ["part"]) fun _ _ _ _ _ _ us hl => match us, hl with | [_], _ => rfl⟩
  have F4 := fun_mk (st := s_is_worth) l4 c4 k4
  have D4 : Df K mg "is_worth" s_is_worth ["part"] f4 _ := ⟨F4, PySem.W.mg_of X G a4, F4.binds (ps := ["part"]) fun _ _ _ _ _ _ us hl => match us, hl with | [_], _ => rfl⟩
  have F5 := fun_mk (st := s_is_guard) l5 c5 k5
  have D5 : Df K mg "is_guard" s_is_guard ["part"] f5 _ := ⟨F5, PySem.W.mg_of X G a5, F5.binds (ps := ["part"]) fun _ _ _ _ _ _ us hl => match us, hl with | [_], _ => rfl⟩
  have F6 := fun_mk (st := s_is_part) l6 c6 k6
  have D6 : Df K mg "is_part" s_is_part ["part", "role"] f6 _ := ⟨F6, PySem.W.mg_of X G a6, F6.binds (ps := ["part", "role"]) fun _ _ _ _ _ _ us hl => match us, hl with | [_, _], _ => rfl⟩
  have F7 := fun_mk (st := s_is_step) l7 c7 k7
  have D7 : Df K mg "is_step" s_is_step ["step"] f7 _ := ⟨F7, PySem.W.mg_of X G a7, F7.binds (ps := ["step"]) fun _ _ _ _ _ _ us hl => match us, hl with | [_], _ => rfl⟩
  have F8 := fun_mk (st := s_lock_fault) l8 c8 k8
  have D8 : Df K mg "lock_fault" s_lock_fault ["steps"] f8 _ := ⟨F8, PySem.W.mg_of X G a8, F8.binds (ps := ["steps"]) fun _ _ _ _ _ _ us hl => match us, hl with | [_], _ => rfl⟩
  have F9 := fun_mk (st := s_law_row) l9 c9 k9
  have D9 : Df K mg "_law_row" s_law_row ["_law_script"] f9 _ := ⟨F9, PySem.W.mg_of X G a9, F9.binds (ps := ["_law_script"]) fun _ _ _ _ _ _ us hl => match us, hl with | [_], _ => rfl⟩
  have F10 := fun_mk (st := s_law_draw) l10 c10 k10
  have D10 : Df K mg "_law_draw" s_law_draw ["_law_row_here", "_law_many"] f10 _ := ⟨F10, PySem.W.mg_of X G a10, F10.binds (ps := ["_law_row_here", "_law_many"]) fun _ _ _ _ _ _ us hl => match us, hl with | [_, _], _ => rfl⟩
  have F11 := fun_mk (st := s_law_word) l11 c11 k11
  have D11 : Df K mg "_law_word" s_law_word ["_law_row_here", "_law_size_here"] f11 _ := ⟨F11, PySem.W.mg_of X G a11, F11.binds (ps := ["_law_row_here", "_law_size_here"]) fun _ _ _ _ _ _ us hl => match us, hl with | [_, _], _ => rfl⟩
  have F12 := fun_mk (st := s_law_names) l12 c12 k12
  have D12 : Df K mg "_law_names" s_law_names ["_law_row_here", "_law_many"] f12 _ := ⟨F12, PySem.W.mg_of X G a12, F12.binds (ps := ["_law_row_here", "_law_many"]) fun _ _ _ _ _ _ us hl => match us, hl with | [_, _], _ => rfl⟩
  have F13 := fun_mk (st := s_law_worth) l13 c13 k13
  have D13 : Df K mg "_law_worth" s_law_worth ["_law_row_here", "_law_names_here"] f13 _ := ⟨F13, PySem.W.mg_of X G a13, F13.binds (ps := ["_law_row_here", "_law_names_here"]) fun _ _ _ _ _ _ us hl => match us, hl with | [_, _], _ => rfl⟩
  have F14 := fun_mk (st := s_law_guard) l14 c14 k14
  have D14 : Df K mg "_law_guard" s_law_guard ["_law_row_here", "_law_names_here"] f14 _ := ⟨F14, PySem.W.mg_of X G a14, F14.binds (ps := ["_law_row_here", "_law_names_here"]) fun _ _ _ _ _ _ us hl => match us, hl with | [_, _], _ => rfl⟩
  have F15 := fun_mk (st := s_law_place) l15 c15 k15
  have D15 : Df K mg "_law_place" s_law_place ["_law_row_here", "_law_names_here"] f15 _ := ⟨F15, PySem.W.mg_of X G a15, F15.binds (ps := ["_law_row_here", "_law_names_here"]) fun _ _ _ _ _ _ us hl => match us, hl with | [_, _], _ => rfl⟩
  have F16 := fun_mk (st := s_law_step) l16 c16 k16
  have D16 : Df K mg "_law_step" s_law_step ["_law_row_here", "_law_names_here"] f16 _ := ⟨F16, PySem.W.mg_of X G a16, F16.binds (ps := ["_law_row_here", "_law_names_here"]) fun _ _ _ _ _ _ us hl => match us, hl with | [_, _], _ => rfl⟩
  have F17 := fun_mk (st := s_law_steps) l17 c17 k17
  have D17 : Df K mg "_law_steps" s_law_steps ["_law_row_here", "_law_names_here", "_law_locks", "_law_size_here"] f17 _ := ⟨F17, PySem.W.mg_of X G a17, F17.binds (ps := ["_law_row_here", "_law_names_here", "_law_locks", "_law_size_here"]) fun _ _ _ _ _ _ us hl => match us, hl with | [_, _, _, _], _ => rfl⟩
  have F18 := fun_mk (st := s_law_odd_text) l18 c18 k18
  have D18 : Df K mg "_law_odd_text" s_law_odd_text ["_law_row_here"] f18 _ := ⟨F18, PySem.W.mg_of X G a18, F18.binds (ps := ["_law_row_here"]) fun _ _ _ _ _ _ us hl => match us, hl with | [_], _ => rfl⟩
  have F19 := fun_mk (st := s_law_odd_number) l19 c19 k19
  have D19 : Df K mg "_law_odd_number" s_law_odd_number ["_law_row_here", "_law_most"] f19 _ := ⟨F19, PySem.W.mg_of X G a19, F19.binds (ps := ["_law_row_here", "_law_most"]) fun _ _ _ _ _ _ us hl => match us, hl with | [_, _], _ => rfl⟩
  have F20 := fun_mk (st := s_law_odd_part) l20 c20 k20
  have D20 : Df K mg "_law_odd_part" s_law_odd_part ["_law_row_here", "_law_names_here"] f20 _ := ⟨F20, PySem.W.mg_of X G a20, F20.binds (ps := ["_law_row_here", "_law_names_here"]) fun _ _ _ _ _ _ us hl => match us, hl with | [_, _], _ => rfl⟩
  have F21 := fun_mk (st := s_law_spoilt) l21 c21 k21
  have D21 : Df K mg "_law_spoilt" s_law_spoilt ["_law_row_here", "_law_step_here", "_law_names_here"] f21 _ := ⟨F21, PySem.W.mg_of X G a21, F21.binds (ps := ["_law_row_here", "_law_step_here", "_law_names_here"]) fun _ _ _ _ _ _ us hl => match us, hl with | [_, _, _], _ => rfl⟩
  have F22 := fun_mk (st := s_law_spoil) l22 c22 k22
  have D22 : Df K mg "_law_spoil" s_law_spoil ["_law_row_here", "_law_steps_here", "_law_names_here"] f22 _ := ⟨F22, PySem.W.mg_of X G a22, F22.binds (ps := ["_law_row_here", "_law_steps_here", "_law_names_here"]) fun _ _ _ _ _ _ us hl => match us, hl with | [_, _, _], _ => rfl⟩
  have F23 := fun_mk (st := s_law_lock_fault) l23 c23 k23
  have D23 : Df K mg "_law_lock_fault" s_law_lock_fault ["_law_row_here", "_law_steps_here", "_law_bad", "_law_name"] f23 _ := ⟨F23, PySem.W.mg_of X G a23, F23.binds (ps := ["_law_row_here", "_law_steps_here", "_law_bad", "_law_name"]) fun _ _ _ _ _ _ us hl => match us, hl with | [_, _, _, _], _ => rfl⟩
  have F24 := fun_mk (st := s_law_good) l24 c24 k24
  have D24 : Df K mg "_law_good" s_law_good ["_law_name", "_law_steps_here", "_law_named", "_law_rounds", "_law_last"] f24 _ := ⟨F24, PySem.W.mg_of X G a24, F24.binds (ps := ["_law_name", "_law_steps_here", "_law_named", "_law_rounds", "_law_last"]) fun _ _ _ _ _ _ us hl => match us, hl with | [_, _, _, _, _], _ => rfl⟩
  have F25 := fun_mk (st := s_law_only) l25 c25 k25
  have D25 : Df K mg "_law_only" s_law_only ["_law_e", "_law_own"] f25 _ := ⟨F25, PySem.W.mg_of X G a25, F25.binds (ps := ["_law_e", "_law_own"]) fun _ _ _ _ _ _ us hl => match us, hl with | [_, _], _ => rfl⟩
  have F26 := fun_mk (st := s_law_told) l26 c26 k26
  have D26 : Df K mg "_law_told" s_law_told ["_law_name", "_law_steps_here", "_law_named", "_law_rounds", "_law_last"] f26 _ := ⟨F26, PySem.W.mg_of X G a26, F26.binds (ps := ["_law_name", "_law_steps_here", "_law_named", "_law_rounds", "_law_last"]) fun _ _ _ _ _ _ us hl => match us, hl with | [_, _, _, _, _], _ => rfl⟩
  have F27 := fun_mk (st := s_law_size) l27 c27 k27
  have D27 : Df K mg "_law_size" s_law_size ["_law_row_here"] f27 _ := ⟨F27, PySem.W.mg_of X G a27, F27.binds (ps := ["_law_row_here"]) fun _ _ _ _ _ _ us hl => match us, hl with | [_], _ => rfl⟩
  have F28 := fun_mk (st := s_law) l28 c28 k28
  have D28 : Df K mg "law" s_law ["_law_script"] fa _ := ⟨F28, PySem.W.mg_of X G a28, F28.binds (ps := ["_law_script"]) fun _ _ _ _ _ _ us hl => match us, hl with | [_], _ => rfl⟩
  have FTI := fun_mk (st := s_Operation_init) lTI cTI kTI
  have FTS := fun_mk (st := s_Operation_steps) lTS cTS kTS
  have bTS : Binds K _ ["self"] [] := FTS.binds (ps := ["self"]) fun _ _ _ _ _ _ us hl => match us, hl with | [_], _ => rfl
  have FD : FunD K "__init__" "Operation.__init__" (defArgs s_Operation_init) (defBody s_Operation_init) (defScope s_Operation_init) [] [("turns", V.int 1), ("otherwise", V.int 0)] fTI _ := ⟨⟨ocTI, odTI, .none, .ref DK, dcTI, pmTI, anTI, cdTI, ctTI, slTI, rfl, lTI, cTI, .inl ⟨rfl, rfl⟩, .inr ⟨DK, rfl, fun q hq => by
    simp only [List.mem_cons, List.not_mem_nil, or_false] at hq
    rcases hq with rfl | rfl
    · exact ⟨_, d1, _, rfl⟩
    · exact ⟨_, d2, _, rfl⟩⟩⟩, kTI⟩
  obtain ⟨ds, hds, hbO⟩ := FD.binds0 (ps := ["self", "name", "steps", "turns", "otherwise"]) 3 (by simp) rfl fun D doc pm an cdv ct us ks h1 h2 => match us, h1, ks, h2 with | [_, _, _], _, [_, _], _ => ⟨_, _, _, _, _, _, rfl, rfl, ⟨_, _, _, _, _, _, rfl, rfl, rfl⟩⟩
  obtain ⟨mvO, kbO⟩ := FD.kbinds0 (ps := ["self", "name", "steps", "turns", "otherwise"]) 3 ["turns", "otherwise"] [] (fun vs _ zs => vs ++ zs) (by simp) (fun q h => nomatch h) (fun r1 _ r3 => r1.append r3) fun D doc pm an cdv ct us mv ws h1 h2 h3 => match us, h1, mv, h2, ws, h3 with | [_, _, _], _, [], _, [_, _], _ => rfl
  have MT : Mk K OP fTI := ⟨p5T, mTI, hTI, p9T⟩
  have METS : Meth K OP _ fTS := ⟨mTS, hTS, kTS⟩
  have G0 := ok_is_name (P := l.prog) (w := w) (base := base) D0 T1
  have G1 := ok_is_below (P := l.prog) (w := w) (base := base) D1 T1
  have G2 := ok_is_number (P := l.prog) (w := w) (base := base) D2 T1 D1 G1
  have G3 := ok_is_place (P := l.prog) (w := w) (base := base) D3 T1 D0 G0
  have G4 := ok_is_worth (P := l.prog) (w := w) (base := base) D4 T1 D0 G0 D2 G2
  have G5 := ok_is_guard (P := l.prog) (w := w) (base := base) D5 T1 D0 G0 D4 G4
  have G6 := ok_is_part (P := l.prog) (w := w) (base := base) D6 T1 D3 G3 D4 G4 D5 G5 D0 G0
  have G7 := oka_is_step (P := l.prog) (w := w) (base := base) D7 T1 D6 G6
  have G8 := ok_lock_fault (P := l.prog) (w := w) (base := base) D8 T2
  have GTI := oka_Operation_init (P := l.prog) (w := w) (base := base) FTI T3 O SB ERN ERM D0 G0 D7 G7 D8 G8 D1 G1 D2 G2
  have GTS := ok_Operation_steps (P := l.prog) (w := w) (base := base) FTS (PySem.W.mg_none_of X G z_list) O
  have G9 := ok_law_row (P := l.prog) (w := w) (base := base) D9 T0
  have G10 := ok_law_draw (P := l.prog) (w := w) (base := base) D10 T0
  have G11 := ok_law_word (P := l.prog) (w := w) (base := base) D11 T0 D10 G10
  have G12 := ok_law_names (P := l.prog) (w := w) (base := base) D12 T0 D10 G10 D11 G11
  have G13 := ok_law_worth (P := l.prog) (w := w) (base := base) D13 T0 (PySem.W.mg_none_of X G z_tuple) D10 G10
  have G14 := ok_law_guard (P := l.prog) (w := w) (base := base) D14 TLn D10 G10 D13 G13
  have G15 := ok_law_place (P := l.prog) (w := w) (base := base) D15 TLn D10 G10
  have G16 := ok_law_step (P := l.prog) (w := w) (base := base) D16 TLn D10 G10 D13 G13 D14 G14 D15 G15
  have G17 := ok_law_steps (P := l.prog) (w := w) (base := base) D17 TRg D10 G10 D16 G16
  have G18 := ok_law_odd_text (P := l.prog) (w := w) (base := base) D18 TLn D10 G10 D11 G11
  have G19 := ok_law_odd_number (P := l.prog) (w := w) (base := base) D19 D10 G10
  have G20 := ok_law_odd_part (P := l.prog) (w := w) (base := base) D20 TLL D10 G10 D13 G13 D19 G19 D18 G18
  have G21 := ok_law_spoilt (P := l.prog) (w := w) (base := base) D21 TLL D10 G10 D20 G20
  have G22 := ok_law_spoil (P := l.prog) (w := w) (base := base) D22 TSp D10 G10 D21 G21
  have G23 := ok_law_lock_fault (P := l.prog) (w := w) (base := base) D23 TLn D10 G10
  have G27 := ok_law_size (P := l.prog) (w := w) (base := base) D27 D10 G10
  have G24 := ok_law_good (P := l.prog) (w := w) (base := base) D24 TGd O MT hds hbO kbO GTI METS bTS GTS
  have G25 := okz_law_only (P := l.prog) (w := w) (base := base) D25 TOn
  have G26 := ok_law_told (P := l.prog) (w := w) (base := base) D26 TTo O MT hds hbO kbO GTI METS bTS GTS D25 G25
  exact ok_law (P := l.prog) (w := w) (base := base) D28 TLw D9 G9 D10 G10 D12 G12 D27 G27 D17 G17 D24 G24 D22 G22 D23 G23 D19 G19 D18 G18 D26 G26
theorem walk {l : PySem.W.OpenLaw} {q : Program} {loose : List Str} {XP : (Str → Option Value) → Heap → Prop} {YP : World → Heap → Prop} {d : DefRec} {K : Params → PySem.W.Frag} (hn : l.most = some 63) (hdf : d.params.defaults = [])
    (hY : ∀ (w : World) (h : Heap), YP w h → (K w.params).In h)
    (F : ∀ (w : World) (mg : Str → Option Value) (fa : Addr) (h : Heap), (K w.params).In h → h.Ns mainGlobals mg → mg d.name = some (.ref fa) →
      ∃ fd : FuncData, (∀ (s : Shared) (u : Value), BindsTo s fd ⟨[u], []⟩ [("_law_script", u)]) ∧ ∀ base : Heap, (K w.params).In base → base.Ns mainGlobals mg → FnG l.prog w (K w.params) mg base (L2.CX l.prog w) 11 fa fd ["_law_script"] (spLaw (K w.params))) :
    PySem.W.WalkO q loose XP YP l.row.toRowW d [] (fun f vs => PySem.call f vs) :=
  walk_ofG (n := 63) (k := 11) (x := "_law_script") (sp := fun w => spLaw (K w.params)) hn (by decide) hdf ⟨rfl, by decide, by decide⟩ hY F fun _ _ a ns hl hS => ⟨a, ns, rfl, hS, hl, fun _ => rfl⟩
end My
open PySem PySem.W PyProof.Rows in
set_option maxRecDepth 100000 in
set_option maxHeartbeats 0 in
theorem PySem.Challenge.cw_coretower_k25_first_spoilt_step_holds : PySem.Challenge.rw_coretower_k25_first_spoilt_step.Holds := by
  w_on; o_law; k_head; (case hw => w_witness2)
  k_fill
  refine My.walk (l := PySem.Challenge.rw_coretower_k25_first_spoilt_step) rfl rfl (fun w h Y => PySem.W.kIn_of Y) ?F
  case F =>
    intro w mg fa h KX G hmg
    refine' My.all_mk KX G hmg ?a0 ?l0 ?c0 ?k0 ?a1 ?l1 ?c1 ?k1 ?a2 ?l2 ?c2 ?k2 ?a3 ?l3 ?c3 ?k3 ?a4 ?l4 ?c4 ?k4 ?a5 ?l5 ?c5 ?k5 ?a6 ?l6 ?c6 ?k6 ?a7 ?l7 ?c7 ?k7 ?a8 ?l8 ?c8 ?k8 ?a9 ?l9 ?c9 ?k9 ?a10 ?l10 ?c10 ?k10 ?a11 ?l11 ?c11 ?k11 ?a12 ?l12 ?c12 ?k12 ?a13 ?l13 ?c13 ?k13 ?a14 ?l14 ?c14 ?k14 ?a15 ?l15 ?c15 ?k15 ?a16 ?l16 ?c16 ?k16 ?a17 ?l17 ?c17 ?k17 ?a18 ?l18 ?c18 ?k18 ?a19 ?l19 ?c19 ?k19 ?a20 ?l20 ?c20 ?k20 ?a21 ?l21 ?c21 ?k21 ?a22 ?l22 ?c22 ?k22 ?a23 ?l23 ?c23 ?k23 ?a24 ?l24 ?c24 ?k24 ?a25 ?l25 ?c25 ?k25 ?a26 ?l26 ?c26 ?k26 ?a27 ?l27 ?c27 ?k27 ?a28 ?l28 ?c28 ?k28 ?z_isinstance ?z_str ?z_int ?z_bool ?z_tuple ?z_len ?z_all ?z_zip ?z_enumerate ?z_list ?z_abs ?z_range ?z_repr ?z_super ?z_max ?z_sorted ?z_ValueError ?gL ?eL ?gX1 ?gX2 ?aN ?xN ?rN ?b1N ?q1N ?q2N ?q3N ?b4N ?b5N ?b6N ?lN ?cN ?kN ?eN ?b7N ?b8N ?b9 ?b14 ?b31 ?p12 ?p13 ?b10N ?b11N ?b12N ?b13N ?b15N ?b17N ?b18N ?b19N ?b25N ?b26N ?aS ?xS ?rS ?b1S ?q1S ?q2S ?q3S ?b4S ?b5S ?b6S ?lS ?cS ?kS ?eS ?b7S ?b8S ?b10S ?b11S ?b12S ?b13S ?b15S ?b17S ?b18S ?b19S ?b25S ?b26S ?aM ?xM ?rM ?b1M ?q1M ?q2M ?q3M ?b4M ?b5M ?b6M ?lM ?cM ?kM ?eM ?b7M ?b8M ?b10M ?b11M ?b12M ?b13M ?b15M ?b17M ?b18M ?b19M ?b25M ?b26M ?aC ?q1C ?q2C ?q3C ?b16S ?sNN ?sNS ?sNM ?sNC ?eNS ?eNM ?eNC ?sSN ?sSS ?sSM ?sSC ?eSN ?eSM ?eSC ?sMN ?sMS ?sMM ?sMC ?eMN ?eMS ?eMC ?aT ?p1T ?p2T ?p3T ?p4T ?n0T ?n1T ?n2T ?n3T ?p9T ?p5T ?mTI ?hTI ?lTI ?cTI ?kTI ?mTS ?hTS ?lTS ?cTS ?kTS ?d1 ?d2 ?cF ?lF ?kF ?wF ?w0 ?v0 ?u0 ?w1 ?v1 ?u1 ?w2 ?v2 ?u2 ?w3 ?v3 ?u3 ?w4 ?v4 ?u4 ?w5 ?v5 ?u5 ?w6 ?v6 ?u6 ?w7 ?v7 ?u7 ?w8 ?v8 ?u8 ?w9 ?v9 ?u9 ?w10 ?v10 ?u10 ?w11 ?v11 ?u11 ?ow0 ?ow1 ?ow2 ?ow3 ?ow4 ?ow5 ?ow6 ?ow7 ?ow8 ?cS_ ?v12 ?u12
    (case a0 => k_is)
    (case l0 => k_is)
    (case c0 => k_is)
    (case k0 => k_is)
    (case a1 => k_is)
    (case l1 => k_is)
    (case c1 => k_is)
    (case k1 => k_is)
    (case a2 => k_is)
    (case l2 => k_is)
    (case c2 => k_is)
    (case k2 => k_is)
    (case a3 => k_is)
    (case l3 => k_is)
    (case c3 => k_is)
    (case k3 => k_is)
    (case a4 => k_is)
    (case l4 => k_is)
    (case c4 => k_is)
    (case k4 => k_is)
    (case a5 => k_is)
    (case l5 => k_is)
    (case c5 => k_is)
    (case k5 => k_is)
    (case a6 => k_is)
    (case l6 => k_is)
    (case c6 => k_is)
    (case k6 => k_is)
    (case a7 => k_is)
    (case l7 => k_is)
    (case c7 => k_is)
    (case k7 => k_is)
    (case a8 => k_is)
    (case l8 => k_is)
    (case c8 => k_is)
    (case k8 => k_is)
    (case a9 => k_is)
    (case l9 => k_is)
    (case c9 => k_is)
    (case k9 => k_is)
    (case a10 => k_is)
    (case l10 => k_is)
    (case c10 => k_is)
    (case k10 => k_is)
    (case a11 => k_is)
    (case l11 => k_is)
    (case c11 => k_is)
    (case k11 => k_is)
    (case a12 => k_is)
    (case l12 => k_is)
    (case c12 => k_is)
    (case k12 => k_is)
    (case a13 => k_is)
    (case l13 => k_is)
    (case c13 => k_is)
    (case k13 => k_is)
    (case a14 => k_is)
    (case l14 => k_is)
    (case c14 => k_is)
    (case k14 => k_is)
    (case a15 => k_is)
    (case l15 => k_is)
    (case c15 => k_is)
    (case k15 => k_is)
    (case a16 => k_is)
    (case l16 => k_is)
    (case c16 => k_is)
    (case k16 => k_is)
    (case a17 => k_is)
    (case l17 => k_is)
    (case c17 => k_is)
    (case k17 => k_is)
    (case a18 => k_is)
    (case l18 => k_is)
    (case c18 => k_is)
    (case k18 => k_is)
    (case a19 => k_is)
    (case l19 => k_is)
    (case c19 => k_is)
    (case k19 => k_is)
    (case a20 => k_is)
    (case l20 => k_is)
    (case c20 => k_is)
    (case k20 => k_is)
    (case a21 => k_is)
    (case l21 => k_is)
    (case c21 => k_is)
    (case k21 => k_is)
    (case a22 => k_is)
    (case l22 => k_is)
    (case c22 => k_is)
    (case k22 => k_is)
    (case a23 => k_is)
    (case l23 => k_is)
    (case c23 => k_is)
    (case k23 => k_is)
    (case a24 => k_is)
    (case l24 => k_is)
    (case c24 => k_is)
    (case k24 => k_is)
    (case a25 => k_is)
    (case l25 => k_is)
    (case c25 => k_is)
    (case k25 => k_is)
    (case a26 => k_is)
    (case l26 => k_is)
    (case c26 => k_is)
    (case k26 => k_is)
    (case a27 => k_is)
    (case l27 => k_is)
    (case c27 => k_is)
    (case k27 => k_is)
    (case a28 => k_is)
    (case l28 => k_is)
    (case c28 => k_is)
    (case k28 => k_is)
    (case z_isinstance => k_is)
    (case z_str => k_is)
    (case z_int => k_is)
    (case z_bool => k_is)
    (case z_tuple => k_is)
    (case z_len => k_is)
    (case z_all => k_is)
    (case z_zip => k_is)
    (case z_enumerate => k_is)
    (case z_list => k_is)
    (case z_abs => k_is)
    (case z_range => k_is)
    (case z_repr => k_is)
    (case z_super => k_is)
    (case z_max => k_is)
    (case z_sorted => k_is)
    (case z_ValueError => k_is)
    (case gL => k_is)
    (case eL => decide +kernel)
    (case gX1 => k_is)
    (case gX2 => k_is)
    (case aN => k_is)
    (case xN => k_is)
    (case rN => decide +kernel)
    (case b1N => k_is)
    (case q1N => k_is)
    (case q2N => k_is)
    (case q3N => k_is)
    (case b4N => k_is)
    (case b5N => k_is)
    (case b6N => k_is)
    (case lN => k_is)
    (case cN => k_is)
    (case kN => k_is)
    (case eN => k_is)
    (case b7N => ks_is)
    (case b8N => k_is)
    (case b9 => k_is)
    (case b14 => first | rfl | decide +kernel)
    (case b31 => decide +kernel)
    (case p12 => k_is)
    (case p13 => k_is)
    (case b10N => k_is)
    (case b11N => k_is)
    (case b12N => rfl)
    (case b13N => first | rfl | decide +kernel)
    (case b15N => k_is)
    (case b17N => k_is)
    (case b18N => k_is)
    (case b19N => k_is)
    (case b25N => k_is)
    (case b26N => k_is)
    (case aS => k_is)
    (case xS => k_is)
    (case rS => decide +kernel)
    (case b1S => k_is)
    (case q1S => k_is)
    (case q2S => k_is)
    (case q3S => k_is)
    (case b4S => k_is)
    (case b5S => k_is)
    (case b6S => k_is)
    (case lS => k_is)
    (case cS => k_is)
    (case kS => k_is)
    (case eS => k_is)
    (case b7S => ks_is)
    (case b8S => k_is)
    (case b10S => k_is)
    (case b11S => k_is)
    (case b12S => rfl)
    (case b13S => first | rfl | decide +kernel)
    (case b15S => k_is)
    (case b17S => k_is)
    (case b18S => k_is)
    (case b19S => k_is)
    (case b25S => k_is)
    (case b26S => k_is)
    (case aM => k_is)
    (case xM => k_is)
    (case rM => decide +kernel)
    (case b1M => k_is)
    (case q1M => k_is)
    (case q2M => k_is)
    (case q3M => k_is)
    (case b4M => k_is)
    (case b5M => k_is)
    (case b6M => k_is)
    (case lM => k_is)
    (case cM => k_is)
    (case kM => k_is)
    (case eM => k_is)
    (case b7M => ks_is)
    (case b8M => k_is)
    (case b10M => k_is)
    (case b11M => k_is)
    (case b12M => rfl)
    (case b13M => first | rfl | decide +kernel)
    (case b15M => k_is)
    (case b17M => k_is)
    (case b18M => k_is)
    (case b19M => k_is)
    (case b25M => k_is)
    (case b26M => k_is)
    (case aC => k_is)
    (case q1C => k_is)
    (case q2C => k_is)
    (case q3C => k_is)
    (case b16S => k_is)
    (case sNN => first | rfl | k_is)
    (case sNS => first | rfl | k_is)
    (case sNM => first | rfl | k_is)
    (case sNC => first | rfl | k_is)
    (case eNS => decide +kernel)
    (case eNM => decide +kernel)
    (case eNC => decide +kernel)
    (case sSN => first | rfl | k_is)
    (case sSS => first | rfl | k_is)
    (case sSM => first | rfl | k_is)
    (case sSC => first | rfl | k_is)
    (case eSN => decide +kernel)
    (case eSM => decide +kernel)
    (case eSC => decide +kernel)
    (case sMN => first | rfl | k_is)
    (case sMS => first | rfl | k_is)
    (case sMM => first | rfl | k_is)
    (case sMC => first | rfl | k_is)
    (case eMN => decide +kernel)
    (case eMS => decide +kernel)
    (case eMC => decide +kernel)
    (case aT => k_is)
    (case p1T => k_is)
    (case p2T => k_is)
    (case p3T => k_is)
    (case p4T => k_is)
    (case n0T => k_is)
    (case n1T => k_is)
    (case n2T => k_is)
    (case n3T => k_is)
    (case p9T => k_is)
    (case p5T => k_is)
    (case mTI => k_is)
    (case hTI => k_is)
    (case lTI => k_is)
    (case cTI => k_is)
    (case kTI => k_is)
    (case mTS => k_is)
    (case hTS => k_is)
    (case lTS => k_is)
    (case cTS => k_is)
    (case kTS => k_is)
    (case d1 => k_is)
    (case d2 => k_is)
    (case cF => k_is)
    (case lF => k_is)
    (case kF => k_keys)
    (case wF => decide)
    (case w0 => k_is)
    (case v0 => k_is)
    (case u0 => exact ⟨by decide, by exact .cons ⟨_, rfl⟩ (.cons ⟨_, rfl⟩ (.cons ⟨_, rfl⟩ (.nil)))⟩)
    (case w1 => k_is)
    (case v1 => k_is)
    (case u1 => exact ⟨by decide, by exact .cons ⟨_, rfl⟩ (.cons ⟨_, rfl⟩ (.cons ⟨_, rfl⟩ (.nil)))⟩)
    (case w2 => k_is)
    (case v2 => k_is)
    (case u2 => exact ⟨by decide, by exact .cons ⟨_, rfl⟩ (.cons ⟨_, rfl⟩ (.cons ⟨_, rfl⟩ (.nil)))⟩)
    (case w3 => k_is)
    (case v3 => k_is)
    (case u3 => exact ⟨by decide, by exact .cons ⟨_, rfl⟩ (.cons ⟨_, rfl⟩ (.cons ⟨_, rfl⟩ (.nil)))⟩)
    (case w4 => k_is)
    (case v4 => k_is)
    (case u4 => exact ⟨by decide, by exact .cons ⟨_, rfl⟩ (.cons ⟨_, rfl⟩ (.cons ⟨_, rfl⟩ (.cons ⟨_, rfl⟩ (.nil))))⟩)
    (case w5 => k_is)
    (case v5 => k_is)
    (case u5 => exact ⟨by decide, by exact .cons ⟨_, rfl⟩ (.cons ⟨_, rfl⟩ (.cons ⟨_, rfl⟩ (.cons ⟨_, rfl⟩ (.cons ⟨_, rfl⟩ (.nil)))))⟩)
    (case w6 => k_is)
    (case v6 => k_is)
    (case u6 => exact ⟨by decide, by exact .cons ⟨_, rfl⟩ (.cons ⟨_, rfl⟩ (.nil))⟩)
    (case w7 => k_is)
    (case v7 => k_is)
    (case u7 => exact ⟨by decide, by exact .cons ⟨_, rfl⟩ (.nil)⟩)
    (case w8 => k_is)
    (case v8 => k_is)
    (case u8 => exact ⟨by decide, by exact .cons ⟨_, rfl⟩ (.nil)⟩)
    (case w9 => k_is)
    (case v9 => k_is)
    (case u9 => exact ⟨by decide, by exact .cons ⟨_, rfl⟩ (.cons ⟨_, rfl⟩ (.nil))⟩)
    (case w10 => k_is)
    (case v10 => k_is)
    (case u10 => exact ⟨by decide, by exact .cons ⟨_, rfl⟩ (.cons ⟨_, rfl⟩ (.nil))⟩)
    (case w11 => k_is)
    (case v11 => k_is)
    (case u11 => exact ⟨by decide, by exact .cons ⟨_, rfl⟩ (.cons ⟨_, rfl⟩ (.nil))⟩)
    (case ow0 => k_is)
    (case ow1 => k_is)
    (case ow2 => k_is)
    (case ow3 => k_is)
    (case ow4 => k_is)
    (case ow5 => k_is)
    (case ow6 => k_is)
    (case ow7 => k_is)
    (case ow8 => k_is)
    (case cS_ => k_is)
    (case v12 => k_is)
    (case u12 => exact ⟨by decide, by exact .cons ⟨_, rfl⟩ (.cons ⟨_, rfl⟩ (.cons ⟨_, rfl⟩ (.nil)))⟩)

