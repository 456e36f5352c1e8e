"""Pieceyard: board games as data, trees as papers, and problems."""
